
/- A loop in a great frame: what the body may write stands behind ONE function letter, not behind a letter each. -/
import Derived.Test.YtobolfnokjekcaaWords
import Derived.Deep.LoopGhost
import Derived.Deep.Cut
namespace Go.Proofs.Ytobolfnokjekcaa
open Go.RowKit

/-- Slot k of a frame. -/
def nth : List Value → Nat → Value
  | [], _ => undef
  | x :: _, 0 => x
  | _ :: xs, k + 1 => nth xs k
/-- The frame with the marked slots, from k on, read from t. -/
def mask (t : Nat → Value) : Nat → List Bool → List Value → List Value
  | _, _, [] => []
  | _, [], x :: xs => x :: xs
  | k, true :: bs, _ :: xs => t k :: mask t (k + 1) bs xs
  | k, false :: bs, x :: xs => x :: mask t (k + 1) bs xs
/-- The frame's slots that aren't marked. -/
def keep : List Bool → List Value → List Value
  | _, [] => []
  | [], x :: xs => x :: xs
  | true :: bs, _ :: xs => undef :: keep bs xs
  | false :: bs, x :: xs => x :: keep bs xs
theorem mask_keep (T : Nat → Value) : ∀ (bs : List Bool) (k : Nat) (l l' : List Value), (∀ i, i < l'.length → T (k + i) = nth l' i) → keep bs l' = keep bs l → l' = mask T k bs l
  | bs, k, [], l', _, h => by
    cases l' with
    | nil => cases bs <;> rfl
    | cons y ys =>
      cases bs with
      | nil => simp [keep] at h
      | cons b bs => cases b <;> simp [keep] at h
  | [], k, x :: xs, l', _, h => by
    cases l' with
    | nil => simp [keep] at h
    | cons y ys => simpa [keep, mask] using h
  | b :: bs, k, x :: xs, l', hT, h => by
    cases l' with
    | nil => cases b <;> simp [keep] at h
    | cons y ys =>
      have hT' : ∀ i, i < ys.length → T (k + 1 + i) = nth ys i := fun i hi => by
        have := hT (i + 1) (by simp; omega)
        rw [show k + 1 + i = k + (i + 1) by omega, this]
        rfl
      have h0 : T k = y := hT 0 (by simp)
      cases b with
      | true =>
        simp only [keep, List.cons.injEq, true_and] at h
        simp only [mask, h0, List.cons.injEq, true_and]
        exact mask_keep T bs (k + 1) xs ys hT' h
      | false =>
        simp only [keep, List.cons.injEq] at h
        simp only [mask, h.1, List.cons.injEq, true_and]
        exact mask_keep T bs (k + 1) xs ys hT' h.2
/-- A LOOP: the relation bears a number that each round lowers; it speaks of the frame's slots by their numbers. -/
theorem wp_loop_mask {P : Program} {Q : Exit → Act → World → Prop} {w : World} {c : Code} {l : List Value} {ds : List Deferred} (bs : List Bool) (I : Nat → (Nat → Value) → World → Prop) (n0 : Nat) (h0 : I n0 (nth l) w)
    (round : ∀ n t w', I n t w' → ∀ K : Act → World → Prop, Hid (∀ (l' : List Value) (w'' : World) (n' : Nat), n' < n → keep bs l' = keep bs l → I n' (nth l') w'' → K ⟨l'.toArray, ds⟩ w'') → c.wp P (Exit.then K Q) ⟨(mask t 0 bs l).toArray, ds⟩ w') :
    (Code.loop c).wp P Q ⟨l.toArray, ds⟩ w := by
  have hl : l = mask (nth l) 0 bs l := mask_keep (nth l) bs 0 l l (fun i _ => by rw [Nat.zero_add]) rfl
  refine wp_loop_ghost (fun n a w => ∃ t, I n t w ∧ a = ⟨(mask t 0 bs l).toArray, ds⟩) n0 ⟨nth l, h0, by rw [← hl]⟩ ?_
  rintro n a w' ⟨t, hI, rfl⟩
  refine round n t w' hI _ ?_
  intro l' w'' n' hn hk hI'
  exact ⟨n', hn, nth l', hI', by rw [← mask_keep (nth l') bs 0 l l' (fun i _ => by rw [Nat.zero_add]) hk]⟩
/-- THE WAYS THROUGH AN 'if' MEET AGAIN: what the ways may write stands behind one function letter. -/
theorem wp_cut_mask {P : Program} {s : Code} {K : Act → World → Prop} {Q : Exit → Act → World → Prop} {l : List Value} {ds : List Deferred} {w : World} (bs : List Bool) (R : (Nat → Value) → World → Prop)
    (first : ∀ K' : Act → World → Prop, Hid (∀ (l' : List Value) (w' : World), keep bs l' = keep bs l → R (nth l') w' → K' ⟨l'.toArray, ds⟩ w') → s.wp P (Exit.then K' Q) ⟨l.toArray, ds⟩ w)
    (rest : ∀ (t : Nat → Value) (w' : World), R t w' → K ⟨(mask t 0 bs l).toArray, ds⟩ w') : s.wp P (Exit.then K Q) ⟨l.toArray, ds⟩ w := by
  refine wp_cut (fun a w' => ∃ t, a = ⟨(mask t 0 bs l).toArray, ds⟩ ∧ R t w') (fun a' w' h => ?_) (fun J K' hJ hK => ?_)
  · obtain ⟨t, rfl, hR⟩ := h
    exact rest t w' hR
  · refine first K' (fun l' w' hk hR => hK _ _ (hJ _ _ ⟨nth l', ?_, hR⟩))
    rw [← mask_keep (nth l') bs 0 l l' (fun i _ => by rw [Nat.zero_add]) hk]
/-- The world under one name. -/
theorem gen_world {P : Program} {c : Code} {Q : Exit → Act → World → Prop} {a : Act} {w : World} (h : ∀ wd, wd = w → c.wp P Q a wd) : c.wp P Q a w := h w rfl
end Go.Proofs.Ytobolfnokjekcaa
