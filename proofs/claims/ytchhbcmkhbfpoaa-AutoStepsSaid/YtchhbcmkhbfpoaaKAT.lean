/- Package utf: a walk that lies in another struct. -/
import Derived.Test.YtchhbcmkhbfpoaaKAS
import Derived.Test.YtchhbcmkhbfpoaaKAR
import Derived.Test.YtchhbcmkhbfpoaaKAO
namespace Go.Proofs.Ytchhbcmkhbfpoaa
open Go.RowKit

section
variable {oo : Nat} {tt : TypeId} {pa pb : Array Value}
theorem ufd {w : World} {g : Nat} {q : UQ} (h : Fd w g oo tt pa (ucells q) pb) :
    w.cell? ⟨g, oo, none⟩ = some (.int .i64 q.left) ∧ w.cell? ⟨g, oo + 1, none⟩ = some (.int .u8 q.lo) ∧ w.cell? ⟨g, oo + 2, none⟩ = some (.int .u8 q.hi) ∧ w.cell? ⟨g, oo + 3, none⟩ = some (.bool q.wr) ∧ (∀ i, w.frozen? ⟨g, i, none⟩ = false) :=
  ⟨h.cell 0, h.cell 1, h.cell 2, h.cell 3, h.free⟩
theorem utf_begin_someO (c : Int) (n : Nat) (l : Int) (h : Int) (hn : umore c = some n) (w : World) (g : Nat) (hg : Fd w g oo tt pa (ucells ⟨0, l, h, false⟩) pb) :
    Calls Try.prog 76 #[.pointer (some ⟨g, oo, none⟩), .int .u8 c] w fun e w' => e = .returned (.bool true) ∧ Fd w' g oo tt pa (ucells ⟨n, ulo c, uhi c, false⟩) pb ∧ Only g w w' := by
  obtain ⟨c0, c1, c2, c3, fz⟩ := ufd hg
  have f0 := fz oo
  have f1 := fz (oo + 1)
  have f2 := fz (oo + 2)
  have z : ((0 : Nat) : Int) = 0 := rfl
  simp only [z] at c0
  clear fz c3 z
  rcases umore_some hn with ⟨rfl, r1, r2⟩ | ⟨rfl, r1, r2⟩ | ⟨rfl, r1, r2⟩ | ⟨rfl, r1⟩
  · go_enter Try.func76, Try.ntmps76
    go_wp2_with (go_at_call 88; refine (utf_bounds _ _).mono ?_; rintro e w' ⟨rfl, rfl⟩)
    go_ret
    exact ⟨rfl, ((((hg.put 0 (.int .i64 1)).put 0 (.int .i64 2)).put 0 (.int .i64 3)).put 1 (.int .u8 (ulo c))).put 2 (.int .u8 (uhi c)), (((((Only.refl g w).put (oo + 0) _).put (oo + 0) _).put (oo + 0) _).put (oo + 1) _).put (oo + 2) _⟩
  · go_enter Try.func76, Try.ntmps76
    go_wp2_with (go_at_call 88; refine (utf_bounds _ _).mono ?_; rintro e w' ⟨rfl, rfl⟩)
    go_ret
    exact ⟨rfl, (((hg.put 0 (.int .i64 1)).put 0 (.int .i64 2)).put 1 (.int .u8 (ulo c))).put 2 (.int .u8 (uhi c)), ((((Only.refl g w).put (oo + 0) _).put (oo + 0) _).put (oo + 1) _).put (oo + 2) _⟩
  · go_enter Try.func76, Try.ntmps76
    go_wp2_with (go_at_call 88; refine (utf_bounds _ _).mono ?_; rintro e w' ⟨rfl, rfl⟩)
    go_ret
    exact ⟨rfl, ((hg.put 0 (.int .i64 1)).put 1 (.int .u8 (ulo c))).put 2 (.int .u8 (uhi c)), (((Only.refl g w).put (oo + 0) _).put (oo + 1) _).put (oo + 2) _⟩
  · go_enter Try.func76, Try.ntmps76
    go_wp2_with (go_at_call 88; refine (utf_bounds _ _).mono ?_; rintro e w' ⟨rfl, rfl⟩)
    go_ret
    exact ⟨rfl, (hg.put 1 (.int .u8 (ulo c))).put 2 (.int .u8 (uhi c)), ((Only.refl g w).put (oo + 1) _).put (oo + 2) _⟩
theorem utf_begin_noneO (c : Int) (hn : umore c = none) (w : World) (g : Nat) :
    Calls Try.prog 76 #[.pointer (some ⟨g, oo, none⟩), .int .u8 c] w fun e w' => e = .returned (.bool false) ∧ w = w' := by
  obtain ⟨r1, r2, r3, r4⟩ := umore_none hn
  go_enter Try.func76, Try.ntmps76
  go_wp2
  all_goals go_ret
  all_goals exact ⟨rfl, rfl⟩
theorem utf_follow_noO (c l h : Int) (n : Nat) (hn : c < l ∨ h < c) (w : World) (g : Nat) (hg : Fd w g oo tt pa (ucells ⟨n, l, h, false⟩) pb) :
    Calls Try.prog 77 #[.pointer (some ⟨g, oo, none⟩), .int .u8 c] w fun e w' => e = .returned (.bool false) ∧ w = w' := by
  obtain ⟨c0, c1, c2, c3, fz⟩ := ufd hg
  dsimp only at c0 c1 c2 c3
  clear fz
  by_cases hcl : c < l
  · go_enter Try.func77, Try.ntmps77
    go_wp2
    go_ret
    exact ⟨rfl, rfl⟩
  · have hch : h < c := by omega
    go_enter Try.func77, Try.ntmps77
    go_wp2
    go_ret
    exact ⟨rfl, rfl⟩
theorem utf_follow_yesO (c l h : Int) (n : Nat) (h0 : ¬ c < l) (h1 : ¬ h < c) (hm : n < 100) (w : World) (g : Nat) (hg : Fd w g oo tt pa (ucells ⟨n + 1, l, h, false⟩) pb) :
    Calls Try.prog 77 #[.pointer (some ⟨g, oo, none⟩), .int .u8 c] w fun e w' => e = .returned (.bool true) ∧ Fd w' g oo tt pa (ucells ⟨n, 128, 191, false⟩) pb ∧ Only g w w' := by
  obtain ⟨c0, c1, c2, c3, fz⟩ := ufd hg
  dsimp only at c0 c1 c2 c3
  have f0 := fz oo
  have f1 := fz (oo + 1)
  have f2 := fz (oo + 2)
  have z : ((n + 1 : Nat) : Int) = (n : Int) + 1 := by simp
  rw [z] at c0
  clear fz z c3
  go_enter Try.func77, Try.ntmps77
  go_wp2
  go_ret
  exact ⟨rfl, ((hg.put 0 (.int .i64 n)).put 1 (.int .u8 128)).put 2 (.int .u8 191), (((Only.refl g w).put (oo + 0) _).put (oo + 1) _).put (oo + 2) _⟩
theorem utf_doneO (q : UQ) (w : World) (g : Nat) (hg : Fd w g oo tt pa (ucells q) pb) :
    Calls Try.prog 61 #[.pointer (some ⟨g, oo, none⟩)] w fun e w' => e = .returned (.bool (udone q)) ∧ w = w' := by
  obtain ⟨n, l, h, wr⟩ := q
  obtain ⟨c0, c1, c2, c3, fz⟩ := ufd hg
  dsimp only at c0 c1 c2 c3
  clear fz c1 c2
  cases wr with
  | true =>
    go_enter Try.func61, Try.ntmps61
    go_wp2
    go_ret
    exact ⟨rfl, rfl⟩
  | false =>
    have e : udone ⟨n, l, h, false⟩ = ((n : Int) == 0) := by
      unfold udone
      cases n with
      | zero => rfl
      | succ n => simp; omega
    rw [e]
    go_enter Try.func61, Try.ntmps61
    go_wp2
    go_ret
    exact ⟨rfl, rfl⟩
theorem utf_resetO (q : UQ) (w : World) (g : Nat) (hg : Fd w g oo tt pa (ucells q) pb) :
    Calls Try.prog 69 #[.pointer (some ⟨g, oo, none⟩)] w fun e w' => e = .returned (.tuple #[]) ∧ Fd w' g oo tt pa (ucells uq0) pb ∧ Only g w w' := by
  obtain ⟨c0, c1, c2, c3, fz⟩ := ufd hg
  have f0 := fz oo
  have f1 := fz (oo + 1)
  have f2 := fz (oo + 2)
  have f3 := fz (oo + 3)
  clear fz
  go_enter Try.func69, Try.ntmps69
  go_wp2
  go_end0
  exact ⟨rfl, (((hg.put 0 (.int .i64 0)).put 1 (.int .u8 0)).put 2 (.int .u8 0)).put 3 (.bool false), ((((Only.refl g w).put (oo + 0) _).put (oo + 1) _).put (oo + 2) _).put (oo + 3) _⟩
theorem utf_stepO (q : UQ) (c : Int) (hn : q.left < 100) (w : World) (g : Nat) (hg : Fd w g oo tt pa (ucells q) pb) :
    Calls Try.prog 60 #[.pointer (some ⟨g, oo, none⟩), .int .u8 c] w fun e w' => e = .returned (.bool (!(ustep q c).wr)) ∧ Fd w' g oo tt pa (ucells (ustep q c)) pb ∧ Only g w w' := by
  obtain ⟨n, l, h, wr⟩ := q
  obtain ⟨c0, c1, c2, c3, fz⟩ := ufd hg
  dsimp only at c0 c1 c2 c3 hn
  have f3 := fz (oo + 3)
  clear fz
  cases wr with
  | true =>
    have e : ustep ⟨n, l, h, true⟩ c = ⟨n, l, h, true⟩ := rfl
    rw [e]
    clear e
    go_enter Try.func60, Try.ntmps60
    go_wp2
    go_ret
    exact ⟨rfl, hg, Only.refl _ _⟩
  | false =>
    cases n with
    | zero =>
      cases hm : umore c with
      | none =>
        have e : ustep ⟨0, l, h, false⟩ c = ⟨0, l, h, true⟩ := by unfold ustep; rw [if_neg (by simp), if_pos rfl, hm]
        rw [e]
        clear e
        have z : ((0 : Nat) : Int) = 0 := rfl
        rw [z] at c0
        clear z c1 c2
        have HB := Lib.hid (utf_begin_noneO (oo := oo) c hm)
        have HG := Lib.hid hg
        clear hg
        go_enter Try.func60, Try.ntmps60
        go_wp2_with (go_at_call 76; refine (HB.out _ _).mono ?_; rintro e w' ⟨rfl, rfl⟩)
        go_ret
        exact ⟨rfl, HG.out.put 3 (.bool true), (Only.refl _ _).put (oo + 3) _⟩
      | some n =>
        have e : ustep ⟨0, l, h, false⟩ c = ⟨n, ulo c, uhi c, false⟩ := by unfold ustep; rw [if_neg (by simp), if_pos rfl, hm]
        rw [e]
        clear e
        have z : ((0 : Nat) : Int) = 0 := rfl
        rw [z] at c0
        clear z c1 c2
        have HB := Lib.hid (utf_begin_someO c n l h hm w g hg)
        clear hg
        go_enter Try.func60, Try.ntmps60
        go_wp2_with fail
        refine HB.out.mono ?_
        rintro e w1 ⟨rfl, b1, o1⟩
        have d3 : w1.cell? ⟨g, oo + 3, none⟩ = some (.bool false) := b1.cell 3
        have e3 := b1.free (oo + 3)
        have B1 := Lib.hid b1
        have O1 := Lib.hid o1
        clear b1 o1 HB c0 c3 f3
        go_wp2
        go_ret
        exact ⟨rfl, B1.out.put 3 (.bool false), O1.out.put (oo + 3) _⟩
    | succ n =>
      by_cases hm : c < l ∨ h < c
      · have e : ustep ⟨n + 1, l, h, false⟩ c = ⟨n + 1, l, h, true⟩ := by unfold ustep; rw [if_neg (by simp), if_neg (by simp), if_pos hm]
        rw [e]
        clear e c1 c2
        have z : (((n + 1 : Nat) : Int) == 0) = false := by rw [beq_eq_false_iff_ne]; omega
        generalize ((n + 1 : Nat) : Int) = N at *
        have HB := Lib.hid (utf_follow_noO c l h (n + 1) hm w g hg)
        have HG := Lib.hid hg
        clear hg
        go_enter Try.func60, Try.ntmps60
        go_wp2_with (go_at_call 77; refine HB.out.mono ?_; rintro e w' ⟨rfl, rfl⟩)
        go_ret
        exact ⟨rfl, HG.out.put 3 (.bool true), (Only.refl _ _).put (oo + 3) _⟩
      · have e : ustep ⟨n + 1, l, h, false⟩ c = ⟨n, 128, 191, false⟩ := by unfold ustep; rw [if_neg (by simp), if_neg (by simp), if_neg hm]; rfl
        rw [e]
        clear e c1 c2
        have z : (((n + 1 : Nat) : Int) == 0) = false := by rw [beq_eq_false_iff_ne]; omega
        have HB := Lib.hid (utf_follow_yesO c l h n (by omega) (by omega) (by omega) w g hg)
        generalize ((n + 1 : Nat) : Int) = N at *
        clear hg hm
        go_enter Try.func60, Try.ntmps60
        go_wp2_with fail
        refine HB.out.mono ?_
        rintro e w1 ⟨rfl, b1, o1⟩
        have d3 : w1.cell? ⟨g, oo + 3, none⟩ = some (.bool false) := b1.cell 3
        have e3 := b1.free (oo + 3)
        have B1 := Lib.hid b1
        have O1 := Lib.hid o1
        clear b1 o1 HB c0 c3 f3
        go_wp2
        go_ret
        exact ⟨rfl, B1.out.put 3 (.bool false), O1.out.put (oo + 3) _⟩
end
end Go.Proofs.Ytchhbcmkhbfpoaa

/- Package auto: the machine goes through a head and through a text as the scan does. -/
namespace Go.Proofs.Ytchhbcmkhbfpoaa

theorem slice_nil (B : List Int) (a : Nat) : slice B a a = [] := by unfold slice; rw [Nat.sub_self]; rfl
theorem slice_cons {B : List Int} {a b : Nat} (h : a < b) (hb : b ≤ B.length) : slice B a b = B.getD a 0 :: slice B (a + 1) b := by
  have e : B.drop a = B.getD a 0 :: B.drop (a + 1) := by
    rw [List.drop_eq_getElem_cons (by omega), List.getD_eq_getElem?_getD, List.getElem?_eq_getElem (by omega)]
    rfl
  unfold slice
  rw [e, show b - a = (b - (a + 1)) + 1 by omega, List.take_succ_cons]
theorem slice_add {B : List Int} {a b c : Nat} (h : a ≤ b) (h' : b ≤ c) : slice B a b ++ slice B b c = slice B a c := by
  unfold slice
  rw [show c - a = (b - a) + (c - b) by omega, List.take_add, List.drop_drop, show a + (b - a) = b by omega]
theorem length_slice {B : List Int} {a b : Nat} (hb : b ≤ B.length) : (slice B a b).length = b - a := by unfold slice; rw [List.length_take, List.length_drop]; omega
theorem Fr.waits_feeds (xs : List Int) (f : Fr) : (f.feeds xs).waits = f.waits := by unfold Fr.feeds; split <;> rfl
theorem Fr.feeds_nil (f : Fr) : f.feeds [] = f := by unfold Fr.feeds; split <;> simp
theorem Fr.feeds_feeds (xs ys : List Int) (f : Fr) : (f.feeds xs).feeds ys = f.feeds (xs ++ ys) := by
  by_cases h : f.waits = true
  · have h1 : ∀ zs, f.feeds zs = { f with cur := f.cur ++ zs } := fun zs => if_pos h
    have h2 : (f.feeds xs).feeds ys = { f.feeds xs with cur := (f.feeds xs).cur ++ ys } := if_pos (by rw [Fr.waits_feeds]; exact h)
    rw [h2, h1, h1, List.append_assoc]
  · have h1 : ∀ zs, f.feeds zs = f := fun zs => if_neg h
    rw [h1, h1, h1]
theorem map_feeds_nil (st : List Fr) : st.map (Fr.feeds []) = st := by
  have : Fr.feeds [] = id := funext fun f => f.feeds_nil
  rw [this, List.map_id]
theorem map_feeds (xs ys : List Int) (st : List Fr) : (st.map (Fr.feeds xs)).map (Fr.feeds ys) = st.map (Fr.feeds (xs ++ ys)) := by
  rw [List.map_map]
  congr 1
  funext f
  exact f.feeds_feeds xs ys

/-- The keys about it are too long there. -/
def Kn (K : Nat) (st : List Fr) (a b : Nat) (n : Note) : Prop := n.2 = 4 ∧ a ≤ n.1 ∧ n.1 < b ∧ ∃ f ∈ st, f.waits = true ∧ f.cur.length + (n.1 - a) = K
theorem Kn.none {K st a n} : ¬ Kn K st a a n := fun h => by have := h.2.1; have := h.2.2.1; omega
theorem kn_add {K : Nat} {st : List Fr} {B : List Int} {a b c : Nat} {n : Note} (h : a ≤ b) (h' : b ≤ c) (hb : b ≤ B.length) : Kn K st a b n ∨ Kn K (st.map (Fr.feeds (slice B a b))) b c n ↔ Kn K st a c n := by
  have hl : (slice B a b).length = b - a := length_slice hb
  constructor
  · rintro (⟨h1, h2, h3, f, hf, hw, he⟩ | ⟨h1, h2, h3, f, hf, hw, he⟩)
    · exact ⟨h1, h2, by omega, f, hf, hw, he⟩
    · obtain ⟨g, hg, rfl⟩ := List.mem_map.1 hf
      rw [Fr.waits_feeds] at hw
      refine ⟨h1, by omega, h3, g, hg, hw, ?_⟩
      unfold Fr.feeds at he
      rw [if_pos hw] at he
      simp only [List.length_append] at he
      omega
  · rintro ⟨h1, h2, h3, f, hf, hw, he⟩
    by_cases hn : n.1 < b
    · exact .inl ⟨h1, h2, hn, f, hf, hw, he⟩
    · refine .inr ⟨h1, by omega, h3, _, List.mem_map.2 ⟨f, hf, rfl⟩, by rw [Fr.waits_feeds]; exact hw, ?_⟩
      unfold Fr.feeds
      rw [if_pos hw]
      simp only [List.length_append]
      omega
theorem kn_one {K : Nat} {st : List Fr} {i : Nat} {n : Note} : n ∈ (if st.any (Fr.full K) then [((i, 4) : Note)] else []) ↔ Kn K st i (i + 1) n := by
  obtain ⟨p, e⟩ := n
  constructor
  · intro h
    split at h
    · next hh =>
      obtain ⟨f, hf, hw⟩ := List.any_eq_true.1 hh
      rw [List.mem_singleton] at h
      obtain ⟨rfl, rfl⟩ := Prod.mk.inj h
      unfold Fr.full at hw
      simp only [Bool.and_eq_true, beq_iff_eq] at hw
      exact ⟨rfl, Nat.le_refl _, Nat.lt_succ_self _, f, hf, hw.1, by simp; exact hw.2⟩
    · cases h
  · rintro ⟨h1, h2, h3, f, hf, hw, he⟩
    simp only at h1 h2 h3 he
    obtain rfl : p = i := by omega
    subst h1
    rw [if_pos (List.any_eq_true.2 ⟨f, hf, by unfold Fr.full; simp only [Bool.and_eq_true, beq_iff_eq]; exact ⟨hw, by omega⟩⟩)]
    exact List.mem_singleton.2 rfl

/-- What one more byte comes to; of a head that ends all that it has. -/
inductive HNext2 (L : List Int) (k : Nat) : Bool → Int → HQ → Prop
  | bad (e : Int) (q' : HQ) (he : e = 2 ∨ e = 5) (h : hread L = hnone k e) : HNext2 L k false e q'
  | whole (e : Int) (q' : HQ) (he : e = 0 ∨ e = 5) (h : hread L = ⟨q'.major, q'.width, q'.arg, k + 1, if e = 0 then -1 else k, e⟩) : HNext2 L k true e q'
  | more (q' : HQ) (h : HSt L (k + 1) q') : HNext2 L k false 0 q'
theorem HSt.step2 {L : List Int} {k : Nat} {q : HQ} (h : HSt L k q) (hk : k < L.length) : HNext2 L k (hdone q (L.getD k 0)) (herr q (L.getD k 0)) (hstep q (L.getD k 0)) := by
  unfold hdone herr hstep
  rcases h with ⟨rfl, rfl⟩ | ⟨h1, hkl, h2, h3, h4, rfl⟩
  · have e0 : hmid hq0 (L.getD 0 0) = hbeg (L.getD 0 0 / 32) (L.getD 0 0 % 32) := rfl
    rw [e0]
    by_cases hi : 28 ≤ L.getD 0 0 % 32
    · have hR := hread_bad hk hi
      have e1 : hbeg (L.getD 0 0 / 32) (L.getD 0 0 % 32) = ⟨L.getD 0 0 / 32, 0, 0, 0, true, hbad (L.getD 0 0 / 32) (L.getD 0 0 % 32)⟩ := by unfold hbeg; rw [if_pos hi]
      have hb := hbad_ne (m := L.getD 0 0 / 32) hi
      rw [e1]
      generalize hbad (L.getD 0 0 / 32) (L.getD 0 0 % 32) = b at *
      have hm : (HQ.mk (L.getD 0 0 / 32) 0 0 0 true b).more := Or.inl (by show b ≠ 0; omega)
      rw [if_pos hm, if_pos hm]
      simp only [hm, decide_true, Bool.not_true]
      exact .bad b _ (by omega) hR
    by_cases hs : L.getD 0 0 % 32 < 24
    · have hR := hread_small hk hs
      have e1 : hbeg (L.getD 0 0 / 32) (L.getD 0 0 % 32) = ⟨L.getD 0 0 / 32, 0, L.getD 0 0 % 32, 0, true, 0⟩ := by unfold hbeg; rw [if_neg hi, if_pos hs]
      rw [e1]
      have hm : ¬ (HQ.mk (L.getD 0 0 / 32) 0 (L.getD 0 0 % 32) 0 true 0).more := fun h => by rcases h with h | h; exact h rfl; exact absurd h (by show ¬ (0 : Int) < 0; decide)
      have hsh : hshort (L.getD 0 0 / 32) 0 (L.getD 0 0 % 32) = true := by unfold hshort; rw [if_neg (by omega), leastW_small hs]; rfl
      rw [if_neg hm, if_neg hm]
      dsimp only
      rw [hsh]
      simp only [hm, decide_false, Bool.not_false, if_true]
      exact .whole 0 _ (.inl rfl) (by rw [hR]; rfl)
    · have e1 : hbeg (L.getD 0 0 / 32) (L.getD 0 0 % 32) = ⟨L.getD 0 0 / 32, hwid (L.getD 0 0 % 32), 0, hwid (L.getD 0 0 % 32), true, 0⟩ := by unfold hbeg; rw [if_neg hi, if_neg hs]
      rw [e1]
      have hw : 1 ≤ hwid (L.getD 0 0 % 32) := by rcases hwid_of _ (by omega : 24 ≤ L.getD 0 0 % 32) (by omega) with ⟨_, h⟩ | ⟨_, h⟩ | ⟨_, h⟩ | ⟨_, h⟩ <;> omega
      have hm : (HQ.mk (L.getD 0 0 / 32) (hwid (L.getD 0 0 % 32)) 0 (hwid (L.getD 0 0 % 32)) true 0).more := Or.inr (by show 0 < hwid _; omega)
      rw [if_pos hm, if_pos hm]
      simp only [hm, decide_true, Bool.not_true]
      refine .more _ (Or.inr ⟨by omega, hk, by omega, by omega, by omega, ?_⟩)
      congr 1
      omega
  · have e0 : hmid ⟨L.getD 0 0 / 32, hwid (L.getD 0 0 % 32), big 18446744073709551616 (pad (L.drop 1) (k - 1)), hwid (L.getD 0 0 % 32) - k + 1, true, 0⟩ (L.getD k 0) =
        ⟨L.getD 0 0 / 32, hwid (L.getD 0 0 % 32), big 18446744073709551616 (pad (L.drop 1) k), hwid (L.getD 0 0 % 32) - k, true, if L.getD 0 0 / 32 = 7 ∧ hwid (L.getD 0 0 % 32) = 1 ∧ big 18446744073709551616 (pad (L.drop 1) k) < 32 then 2 else 0⟩ := by
      have hb : (big 18446744073709551616 (pad (L.drop 1) (k - 1)) * 256 + L.getD k 0) % 18446744073709551616 = big 18446744073709551616 (pad (L.drop 1) k) := by
        have := big_pad 18446744073709551616 (L.drop 1) (k - 1)
        rw [show k - 1 + 1 = k by omega] at this
        rw [this]
        congr 2
        simp only [List.getD_eq_getElem?_getD, List.getElem?_drop]
        rw [show 1 + (k - 1) = k by omega]
      unfold hmid hfollow
      rw [if_neg (by simp), if_pos rfl]
      dsimp only
      rw [hb]
      congr 1
      omega
    rw [e0]
    by_cases hs : L.getD 0 0 / 32 = 7 ∧ hwid (L.getD 0 0 % 32) = 1 ∧ big 18446744073709551616 (pad (L.drop 1) k) < 32
    · rw [if_pos hs]
      have hk1 : k = 1 := by omega
      subst hk1
      have hR := hread_simple (by omega) h2 h3 (by omega) (by unfold harg; rw [hs.2.1]; exact ⟨hs.1, rfl, hs.2.2⟩)
      have hm : (HQ.mk (L.getD 0 0 / 32) (hwid (L.getD 0 0 % 32)) (big 18446744073709551616 (pad (L.drop 1) 1)) (hwid (L.getD 0 0 % 32) - (1 : Nat)) true 2).more := Or.inl (by show (2 : Int) ≠ 0; decide)
      rw [if_pos hm, if_pos hm]
      simp only [hm, decide_true, Bool.not_true]
      exact .bad 2 _ (.inl rfl) hR
    · rw [if_neg hs]
      by_cases hlt : (k : Int) < hwid (L.getD 0 0 % 32)
      · have hm : (HQ.mk (L.getD 0 0 / 32) (hwid (L.getD 0 0 % 32)) (big 18446744073709551616 (pad (L.drop 1) k)) (hwid (L.getD 0 0 % 32) - k) true 0).more := Or.inr (by show 0 < hwid _ - (k : Int); omega)
        rw [if_pos hm, if_pos hm]
        simp only [hm, decide_true, Bool.not_true]
        refine .more _ (Or.inr ⟨by omega, hk, h2, h3, by omega, ?_⟩)
        rw [show k + 1 - 1 = k by omega]
        congr 1
        omega
      · have hkw : (k : Int) = hwid (L.getD 0 0 % 32) := by omega
        have hkn : (hwid (L.getD 0 0 % 32)).toNat = k := by omega
        have hm : ¬ (HQ.mk (L.getD 0 0 / 32) (hwid (L.getD 0 0 % 32)) (big 18446744073709551616 (pad (L.drop 1) k)) (hwid (L.getD 0 0 % 32) - k) true 0).more := fun h => by
          rcases h with h | h
          · exact h rfl
          · exact absurd h (by show ¬ 0 < hwid _ - (k : Int); omega)
        have hR := hread_whole (L := L) (by omega) h2 h3 (by omega) (by unfold harg; rw [hkn]; exact hs)
        unfold harg at hR
        rw [hkn] at hR
        rw [if_neg hm, if_neg hm]
        simp only [hm, decide_false, Bool.not_false]
        cases hb : hshort (L.getD 0 0 / 32) (hwid (L.getD 0 0 % 32)) (big 18446744073709551616 (pad (L.drop 1) k)) with
        | true =>
          unfold hlong at hR
          rw [hb] at hR
          rw [if_pos rfl]
          refine .whole 0 _ (.inl rfl) ?_
          rw [hR, ← hkw]
          simp only [if_true]
          congr 1
          omega
        | false =>
          unfold hlong at hR
          rw [hb] at hR
          rw [if_neg (by decide)]
          refine .whole 5 _ (.inr rfl) ?_
          rw [hR, ← hkw]
          simp only [Bool.false_eq_true, if_false]
          congr 1
          omega
end Go.Proofs.Ytchhbcmkhbfpoaa
