/- The document's scan (layer 14): what an item has, whatever it is. -/
import Derived.Test.YtchhbcmkhbfpoaaKAY
import Derived.Test.YtchhbcmkhbfpoaaKBA
import Derived.Test.YtchhbcmkhbfpoaaKBB
import Derived.Test.YtchhbcmkhbfpoaaKAR
namespace Go.Proofs.Ytchhbcmkhbfpoaa
open Go.RowKit

theorem inner_all (B g : Nat) (A : Option Addr) (cap : Nat) (L : List Int) (D K : Nat) (s : Int) (item : Nat → Nat → Bool → Sc) (a dp : Nat) (hb : ByteL L) (hl : L.length ≤ 300) (hcp : L.length ≤ cap) (ha : a ≤ L.length) (hd : dp ≤ 1000)
    (hik : ItemC B g A cap L D K s item (a + 1) dp true) (hiv : ItemC B g A cap L D K s item (a + 1) dp false) (hbd : ∀ x key, a + 1 ≤ x → x ≤ L.length → BdI L x (item x (dp + 1) key)) : InnerC B g A cap L D K s item a dp := by
  intro w N E h hB hn he
  have hn' : N.length ≤ 900000 := by omega
  have he' : E.length ≤ 900000 := by omega
  by_cases hla : L.length ≤ a
  · rw [inner_out (Or.inl hla)]
    exact inner_past B g A cap L D K s a dp w N E h hB hla hd (by omega)
  have hlt : a < L.length := by omega
  by_cases h9 : (hread (L.drop a)).e = 9
  · rw [inner_out (Or.inr h9)]
    exact inner_cut B g A cap L D K s a dp w N E h hB hb hl hlt hd hn' h9
  have hno : ¬ (L.length ≤ a ∨ (hread (L.drop a)).e = 9) := fun h => h.elim hla h9
  by_cases h0 : (hread (L.drop a)).many = 0
  · rw [inner_none hno h0]
    exact inner_zero B g A cap L D K s a dp w N E h hB hb hl hlt hd hn' ⟨h9, h0⟩
  rw [inner_go hno h0]
  have hmj := hread_major (L.drop a) (fun c hc => hb c (List.mem_of_mem_drop hc))
  have hag := hread_arg (L.drop a)
  have hmn := hread_many (L.drop a)
  rw [List.length_drop] at hmn
  have hbl : a + (hread (L.drop a)).many.toNat ≤ L.length := by omega
  by_cases m2 : (hread (L.drop a)).major = 2
  · by_cases hq : (hread (L.drop a)).arg ≤ ((L.length - (a + (hread (L.drop a)).many.toNat) : Nat) : Int)
    · have e : scBody L item dp (hread (L.drop a)).major (hread (L.drop a)).arg (a + (hread (L.drop a)).many.toNat) = ⟨[], bevs dp (slice L (a + (hread (L.drop a)).many.toNat) (a + (hread (L.drop a)).many.toNat + (hread (L.drop a)).arg.toNat)) (a + (hread (L.drop a)).many.toNat), a + (hread (L.drop a)).many.toNat + (hread (L.drop a)).arg.toNat, true⟩ := by
        unfold scBody
        rw [if_pos (Or.inl m2), decide_eq_true hq]
        dsimp only
        rw [if_pos rfl, if_neg (by rw [m2]; decide)]
      rw [e]
      exact inner_bytes B g A cap L D K s a dp w N E h hB hb hl hlt hd hn' he' _ ⟨h9, h0⟩ m2 (by omega) (by omega)
    · have e : scBody L item dp (hread (L.drop a)).major (hread (L.drop a)).arg (a + (hread (L.drop a)).many.toNat) = ⟨[], bevs dp (slice L (a + (hread (L.drop a)).many.toNat) (a + (hread (L.drop a)).many.toNat + (L.length - (a + (hread (L.drop a)).many.toNat)))) (a + (hread (L.drop a)).many.toNat), a + (hread (L.drop a)).many.toNat + (L.length - (a + (hread (L.drop a)).many.toNat)), false⟩ := by
        unfold scBody
        rw [if_pos (Or.inl m2), decide_eq_false hq]
        dsimp only
        rw [if_neg (by rw [m2]; decide), if_neg (by decide)]
      rw [e]
      exact inner_bytesShort B g A cap L D K s a dp w N E h hB hb hl hlt hd hn' he' _ ⟨h9, h0⟩ m2 (by omega) (by omega)
  by_cases m3 : (hread (L.drop a)).major = 3
  · by_cases hq : (hread (L.drop a)).arg ≤ ((L.length - (a + (hread (L.drop a)).many.toNat) : Nat) : Int)
    · have e : scBody L item dp (hread (L.drop a)).major (hread (L.drop a)).arg (a + (hread (L.drop a)).many.toNat) = ⟨unotes true uq0 (slice L (a + (hread (L.drop a)).many.toNat) (a + (hread (L.drop a)).many.toNat + (hread (L.drop a)).arg.toNat)) (a + (hread (L.drop a)).many.toNat), bevs dp (slice L (a + (hread (L.drop a)).many.toNat) (a + (hread (L.drop a)).many.toNat + (hread (L.drop a)).arg.toNat)) (a + (hread (L.drop a)).many.toNat), a + (hread (L.drop a)).many.toNat + (hread (L.drop a)).arg.toNat, true⟩ := by
        unfold scBody
        rw [if_pos (Or.inr m3), decide_eq_true hq]
        dsimp only
        rw [if_pos rfl, if_pos m3]
      rw [e]
      exact inner_text B g A cap L D K s a dp w N E h hB hb hl hlt hd hn' he' hcp _ ⟨h9, h0⟩ m3 (by omega) (by omega)
    · have e : scBody L item dp (hread (L.drop a)).major (hread (L.drop a)).arg (a + (hread (L.drop a)).many.toNat) = ⟨unotes false uq0 (slice L (a + (hread (L.drop a)).many.toNat) (a + (hread (L.drop a)).many.toNat + (L.length - (a + (hread (L.drop a)).many.toNat)))) (a + (hread (L.drop a)).many.toNat), bevs dp (slice L (a + (hread (L.drop a)).many.toNat) (a + (hread (L.drop a)).many.toNat + (L.length - (a + (hread (L.drop a)).many.toNat)))) (a + (hread (L.drop a)).many.toNat), a + (hread (L.drop a)).many.toNat + (L.length - (a + (hread (L.drop a)).many.toNat)), false⟩ := by
        unfold scBody
        rw [if_pos (Or.inr m3), decide_eq_false hq]
        dsimp only
        rw [if_pos m3, if_neg (by decide)]
      rw [e]
      exact inner_textShort B g A cap L D K s a dp w N E h hB hb hl hlt hd hn' he' hcp _ ⟨h9, h0⟩ m3 (by omega) (by omega)
  have e1 : ¬ ((hread (L.drop a)).major = 2 ∨ (hread (L.drop a)).major = 3) := fun h => h.elim m2 m3
  by_cases m4 : (hread (L.drop a)).major = 4
  · have e : scBody L item dp (hread (L.drop a)).major (hread (L.drop a)).arg (a + (hread (L.drop a)).many.toNat) = scMany (fun a => item a (dp + 1) false) (hread (L.drop a)).arg.toNat (a + (hread (L.drop a)).many.toNat) := by
      unfold scBody
      rw [if_neg e1, if_pos (Or.inl m4), if_neg (by rw [m4]; decide)]
    rw [e]
    exact inner_list B g A cap L D K s a dp w N E h hB hb hl hlt hd hn' hn he he' item hiv _ rfl (fun x h h' => hbd x false h h') ⟨h9, h0⟩ m4
  by_cases m6 : (hread (L.drop a)).major = 6
  · have e : scBody L item dp (hread (L.drop a)).major (hread (L.drop a)).arg (a + (hread (L.drop a)).many.toNat) = scMany (fun a => item a (dp + 1) false) 1 (a + (hread (L.drop a)).many.toNat) := by
      unfold scBody
      rw [if_neg e1, if_pos (Or.inr m6), if_pos m6]
    rw [e]
    exact inner_tag B g A cap L D K s a dp w N E h hB hb hl hlt hd hn' hn he he' item hiv _ rfl (fun x h h' => hbd x false h h') ⟨h9, h0⟩ m6
  have e2 : ¬ ((hread (L.drop a)).major = 4 ∨ (hread (L.drop a)).major = 6) := fun h => h.elim m4 m6
  by_cases m5 : (hread (L.drop a)).major = 5
  · have e : scBody L item dp (hread (L.drop a)).major (hread (L.drop a)).arg (a + (hread (L.drop a)).many.toNat) = scPairs L (fun a => item a (dp + 1) true) (fun a => item a (dp + 1) false) (hread (L.drop a)).arg.toNat true [] (a + (hread (L.drop a)).many.toNat) := by
      unfold scBody
      rw [if_neg e1, if_neg e2, if_pos m5]
    rw [e]
    exact inner_map B g A cap L D K s a dp w N E h hB hb hl hlt hd hn' hn he he' item hcp hik hiv _ _ ⟨rfl, rfl⟩ (fun x h h' => ⟨hbd x true h h', hbd x false h h'⟩) ⟨h9, h0⟩ m5
  · have e : scBody L item dp (hread (L.drop a)).major (hread (L.drop a)).arg (a + (hread (L.drop a)).many.toNat) = ⟨[], [], a + (hread (L.drop a)).many.toNat, true⟩ := by
      unfold scBody
      rw [if_neg e1, if_neg e2, if_neg m5]
    rw [e]
    exact inner_plain B g A cap L D K s a dp w N E h hB hb hl hlt hd hn' he' ⟨h9, h0⟩ (by omega)
/-- Item's and inner's contracts, by how deep the items lie in one another. -/
theorem item_all (B g : Nat) (A : Option Addr) (cap : Nat) (L : List Int) (D K : Nat) (s : Int) (hb : ByteL L) (hl : L.length ≤ 300) (hcp : L.length ≤ cap) (hK : K ≤ 1024) (hD : D ≤ 64) (f : Nat) : ∀ (a dp : Nat) (key : Bool), a ≤ L.length → L.length - a < f → dp + (L.length - a) ≤ 999 →
    ∀ (w : World) (N : List Note) (E : List AEv), Sn w B g A cap L D K s N E → B ≤ w.heap.size → N.length + 6 * (L.length - a) ≤ 890000 → E.length + 6 * (L.length - a) ≤ 890000 →
      Calls Try.prog 24 #[.pointer (some ⟨g, 0, none⟩), .int .i64 (a : Int), .int .i64 (dp : Int), .bool key] w fun e w' => ScP B g A cap L D K s N E (scItem L D K f a dp key) w e w' := by
  induction f with
  | zero => intro a dp key ha hf; omega
  | succ f ih =>
    intro a dp key ha hf hdp w N E h hB hn he
    have hbd : ∀ x key, a + 1 ≤ x → x ≤ L.length → BdI L x (scItem L D K f x (dp + 1) key) := fun x key h h' => bd_item D K f x (dp + 1) key h' (by omega)
    have hic : ∀ key, ItemC B g A cap L D K s (scItem L D K f) (a + 1) dp key := fun key x w N E h h' hs hB hn he => ih x (dp + 1) key h' (by omega) (by omega) w N E hs hB hn he
    have hin := inner_all B g A cap L D K s (scItem L D K f) a dp hb hl hcp ha (by omega) (hic true) (hic false) hbd
    obtain ⟨b1, b2, b3, b4⟩ := bd_inner (scItem L D K f) a dp ha hbd
    have q : (scInner L (scItem L D K f) a dp).notes.length ≤ 6 * (L.length - a) + 1 ∧ (scInner L (scItem L D K f) a dp).evs.length ≤ 6 * (L.length - a) + 1 := by
      cases ho : (scInner L (scItem L D K f) a dp).ok with
      | true => have := b3 ho; omega
      | false => exact b4 ho
    exact ref_Item B g A cap L D K s (scItem L D K f) a dp key hin ha hl hK hD (by omega) b1 b2 q.1 q.2 (fun h => (b3 h).1) w N E h hB hn he
end Go.Proofs.Ytchhbcmkhbfpoaa

/- The document's scan (layer 14): First, Run, Verdict. -/
namespace Go.Proofs.Ytchhbcmkhbfpoaa
open Go.RowKit

def oAt : Option Note → Int
  | none => 0
  | some m => (m.1 : Int)
def oE : Option Note → Int
  | none => 0
  | some m => m.2
theorem firstN_cons_none (n : Note) (r : List Note) : firstN none (n :: r) = firstN (some n) r := rfl
theorem firstN_cons_take {m n : Note} (r : List Note) (h : n.1 < m.1 ∨ n.1 = m.1 ∧ n.2 < m.2) : firstN (some m) (n :: r) = firstN (some n) r := by
  show firstN (some (if n.1 < m.1 ∨ n.1 = m.1 ∧ n.2 < m.2 then n else m)) r = _
  rw [if_pos h]
theorem firstN_cons_leave {m n : Note} (r : List Note) (h : ¬ (n.1 < m.1 ∨ n.1 = m.1 ∧ n.2 < m.2)) : firstN (some m) (n :: r) = firstN (some m) r := by
  show firstN (some (if n.1 < m.1 ∨ n.1 = m.1 ∧ n.2 < m.2 then n else m)) r = _
  rw [if_neg h]
section
variable {w w' : World} {B g : Nat} {A : Option Addr} {cap : Nat} {L : List Int} {d k s : Int} {N : List Note} {E : List AEv} {vA vE vV : Value}
/-- What was noted, cell by cell. -/
theorem SnV.note_at (h : SnV w B g A cap L d k s N E vA vE vV) {j : Nat} (hj : j < N.length) : ∃ ga ca ge ce n, N[j]? = some n ∧ vA = .slice (some ⟨ga, 0, none⟩) N.length ca ∧ vE = .slice (some ⟨ge, 0, none⟩) N.length ce ∧ w.cell? ⟨ga, j, none⟩ = some (.int .i64 (n.1 : Int)) ∧ w.cell? ⟨ge, j, none⟩ = some (.int .i64 n.2) := by
  obtain ⟨ga, ca, rfl, _⟩ := oc_head h.at_ (by omega)
  obtain ⟨ge, ce, rfl, _⟩ := oc_head h.er (by omega)
  refine ⟨ga, ca, ge, ce, N[j], List.getElem?_eq_getElem hj, rfl, rfl, ?_, ?_⟩
  · rw [(oc_cell h.at_ (by omega)).1]
    simp [hj]
  · rw [(oc_cell h.er (by omega)).1]
    simp [hj]
theorem SnV.forms (h : SnV w B g A cap L d k s N E vA vE vV) : ∃ AA ca AE ce AV cv, vA = .slice AA N.length ca ∧ vE = .slice AE N.length ce ∧ vV = .slice AV E.length cv := by
  obtain ⟨AA, ca, rfl, _⟩ := oc_form h.at_
  obtain ⟨AE, ce, rfl, _⟩ := oc_form h.er
  obtain ⟨AV, cv, rfl, _⟩ := oc_form h.ev
  exact ⟨AA, ca, AE, ce, AV, cv, rfl, rfl, rfl⟩
end
set_option maxRecDepth 4000 in
set_option maxHeartbeats 1000000 in
theorem ref_ScanFirst (w : World) (B g : Nat) (A : Option Addr) (cap : Nat) (L : List Int) (d k s : Int) (N : List Note) (E : List AEv) (h : Sn w B g A cap L d k s N E) (hn : N.length ≤ 1000000000) :
    Calls Try.prog 9 #[.pointer (some ⟨g, 0, none⟩)] w fun e w' => e = .returned (.tuple #[.int .i64 (oAt (firstN none N)), .int .i64 (oE (firstN none N)), .bool (firstN none N).isSome]) ∧ Below w.heap.size w w' := by
  obtain ⟨vA, vE, vV, hV⟩ := h
  obtain ⟨AA, ca, AE, ce, AV, cv, rfl, rfl, rfl⟩ := hV.forms
  have HC : Hid (∀ wr, Below w.heap.size w wr → wr.cell? ⟨g, 4, none⟩ = some (.slice AA N.length ca) ∧ wr.cell? ⟨g, 5, none⟩ = some (.slice AE N.length ce)) := fun wr hb => ⟨(hV.blk.on hb).cell 4, (hV.blk.on hb).cell 5⟩
  have HG : Hid (∀ wr, Below w.heap.size w wr → ∀ j, j < N.length → ∃ ga ge n, N[j]? = some n ∧ AA = some ⟨ga, 0, none⟩ ∧ AE = some ⟨ge, 0, none⟩ ∧ wr.cell? ⟨ga, j, none⟩ = some (.int .i64 (n.1 : Int)) ∧ wr.cell? ⟨ge, j, none⟩ = some (.int .i64 n.2)) := fun wr hb j hj => by
    obtain ⟨ga, ca', ge, ce', n, h1, h2, h3, h4, h5⟩ := hV.note_at hj
    injection h2 with h2 _ _
    injection h3 with h3 _ _
    refine ⟨ga, ge, n, h1, h2, h3, ?_, ?_⟩
    · rw [hb.cell (show (⟨ga, j, none⟩ : Addr).block < w.heap.size from block_lt_of_cell h4)]; exact h4
    · rw [hb.cell (show (⟨ge, j, none⟩ : Addr).block < w.heap.size from block_lt_of_cell h5)]; exact h5
  have HN : Hid (Unit → N.length ≤ 1000000000) := fun _ => hn
  obtain ⟨NI, hNI⟩ : ∃ NI : Int, (N.length : Int) = NI := ⟨_, rfl⟩
  have HNI := Lib.hid hNI
  have HNB : Hid (NI ≤ 1000000000) := by show _ ≤ _; omega
  have hN0 : 0 ≤ NI := by omega
  clear hV hn
  go_enter Try.func9, Try.ntmps9
  go_wp2_with fail
  go_loopw [5, 6, 7, 8] (fun a e b i wr => ∃ (k : Nat) (o : Option Note), (k : Int) ≤ NI ∧ i = .int .i64 k ∧ a = .int .i64 (oAt o) ∧ e = .int .i64 (oE o) ∧ b = .bool o.isSome ∧ firstN none N = firstN o (N.drop k) ∧ Hid (Below w.heap.size w wr)) (fun _ _ _ i _ => N.length - (intOf i).toNat)
  case atStart => exact ⟨0, none, hN0, rfl, rfl, rfl, rfl, rfl, Below.refl _ _⟩
  case round =>
    obtain ⟨k, o, hk, rfl, rfl, rfl, rfl, hf, HW⟩ := hrel
    obtain ⟨c4, c5⟩ := HC.out wr HW.out
    by_cases hlt : (k : Int) < NI
    · have hltn : k < N.length := by have := HNI.out; omega
      obtain ⟨ga, ge, n, hn, rfl, rfl, cA, cE⟩ := HG.out wr HW.out k hltn
      have hdr : N.drop k = n :: N.drop (k + 1) := by
        rw [List.drop_eq_getElem_cons hltn]
        rw [List.getElem?_eq_getElem hltn] at hn
        injection hn with hn
        rw [hn]
      rw [hdr] at hf
      have hk0 : (0 : Int) ≤ k := by omega
      have hk1 : (k : Int) < 1000000000 := by have := HNB.out; omega
      have HD : Hid (∀ q, Below w.heap.size w (wr.drewN q)) := fun q => below_drawnN HW.out q
      cases o with
      | none =>
        have HF : Hid (firstN none N = firstN (some n) (N.drop (k + 1))) := hf
        clear hf hdr hn HC HG
        simp only [oAt, oE, Option.isSome] at *
        go_wp2_with fail
        go_quiet (fail)
        go_wp2_with fail
        go_roundw
        case rel => exact ⟨k + 1, some n, by omega, by go_num, rfl, rfl, rfl, HF.out, HD.out _⟩
        case measure => simp [intOf]; omega
      | some m =>
        by_cases hc : n.1 < m.1 ∨ n.1 = m.1 ∧ n.2 < m.2
        · have HF : Hid (firstN none N = firstN (some n) (N.drop (k + 1))) := by rw [hf]; exact firstN_cons_take _ hc
          simp only [oAt, oE, Option.isSome] at *
          have hc' : (n.1 : Int) < (m.1 : Int) ∨ (n.1 : Int) = (m.1 : Int) ∧ n.2 < m.2 := by omega
          have HE : Hid (∀ a : Int, a = (n.1 : Int) → (Value.int .i64 a) = .int .i64 (n.1 : Int)) := fun a h => by rw [h]
          clear hf hdr hn HC HG hc
          obtain ⟨n1, hn1⟩ : ∃ z : Int, (n.1 : Int) = z := ⟨_, rfl⟩
          obtain ⟨m1, hm1⟩ : ∃ z : Int, (m.1 : Int) = z := ⟨_, rfl⟩
          obtain ⟨n2, hn2⟩ : ∃ z : Int, n.2 = z := ⟨_, rfl⟩
          obtain ⟨m2, hm2⟩ : ∃ z : Int, m.2 = z := ⟨_, rfl⟩
          rw [hn1, hm1, hn2, hm2] at hc'
          rw [hn1] at cA
          rw [hn2] at cE
          rw [hm1, hm2]
          have H1 := Lib.hid hn1
          have H2 := Lib.hid hn2
          clear hn1 hn2 hm1 hm2 HE
          rcases hc' with hc' | ⟨hc', hc2⟩
          · go_wp2_with fail
            go_quiet (fail)
            go_wp2_with fail
            go_roundw
            case rel => exact ⟨k + 1, some n, by omega, by go_num, by rw [← H1.out], by rw [← H2.out], rfl, HF.out, HD.out _⟩
            case measure => simp [intOf]; omega
          · subst hc'
            go_wp2_with fail
            go_quiet (fail)
            go_wp2_with fail
            go_roundw
            case rel => exact ⟨k + 1, some n, by omega, by go_num, by rw [← H1.out], by rw [← H2.out], rfl, HF.out, HD.out _⟩
            case measure => simp [intOf]; omega
        · have HF : Hid (firstN none N = firstN (some m) (N.drop (k + 1))) := by rw [hf]; exact firstN_cons_leave _ hc
          simp only [oAt, oE, Option.isSome] at *
          have hc' : (m.1 : Int) < (n.1 : Int) ∨ (n.1 : Int) = (m.1 : Int) ∧ ¬ n.2 < m.2 := by omega
          clear hf hdr hn HC HG hc
          obtain ⟨n1, hn1⟩ : ∃ z : Int, (n.1 : Int) = z := ⟨_, rfl⟩
          obtain ⟨m1, hm1⟩ : ∃ z : Int, (m.1 : Int) = z := ⟨_, rfl⟩
          obtain ⟨n2, hn2⟩ : ∃ z : Int, n.2 = z := ⟨_, rfl⟩
          obtain ⟨m2, hm2⟩ : ∃ z : Int, m.2 = z := ⟨_, rfl⟩
          rw [hn1, hm1, hn2, hm2] at hc'
          rw [hn1] at cA
          rw [hn2] at cE
          rw [hm1, hm2]
          have H1 := Lib.hid hm1
          have H2 := Lib.hid hm2
          clear hn1 hn2 hm1 hm2
          rcases hc' with hc' | ⟨hc', hc2⟩
          · have hx : ¬ n1 < m1 := by omega
            have hy : ¬ n1 = m1 := by omega
            clear hc'
            go_wp2_with fail
            go_roundw
            case rel => exact ⟨k + 1, some m, by omega, by go_num, by rw [← H1.out], by rw [← H2.out], rfl, HF.out, HW⟩
            case measure => simp [intOf]; omega
          · subst hc'
            go_wp2_with fail
            go_roundw
            case rel => exact ⟨k + 1, some m, by omega, by go_num, by rw [← H1.out], by rw [← H2.out], rfl, HF.out, HW⟩
            case measure => simp [intOf]; omega
    · have hkl : k = N.length := by have := HNI.out; omega
      rw [hkl, List.drop_length] at hf
      have hfo : firstN none N = o := by rw [hf]; cases o <;> rfl
      have HFO := Lib.hid hfo
      clear hf hkl HC HG hfo
      generalize h1 : oAt o = a1 at *
      generalize h2 : oE o = a2 at *
      generalize h3 : o.isSome = a3 at *
      have H1 := Lib.hid h1
      have H2 := Lib.hid h2
      have H3 := Lib.hid h3
      clear h1 h2 h3
      go_wp2_with fail
      refine bodyPost_ret (results_tmp3 rfl _ _ _) rfl ?_
      refine ⟨?_, HW.out⟩
      rw [HFO.out, H1.out, H2.out, H3.out]
      rfl
end Go.Proofs.Ytchhbcmkhbfpoaa

/- The document's scan (layer 14): Run, Verdict. -/
namespace Go.Proofs.Ytchhbcmkhbfpoaa
open Go.RowKit

theorem own_nil (w : World) (B : Nat) (e : TypeId) (sz : Nat) : w.ownsRow B e sz (.slice none 0 0) 0 [] := ⟨by simp, .inl ⟨rfl, rfl⟩⟩
def sc0 : Value := .agg #[.slice none 0 0, .int .i64 0, .int .i64 0, .int .i64 0, .slice none 0 0, .slice none 0 0, .slice none 0 0]
theorem sc_zero : ∀ w, (zeroValue 46).run Try.prog w = .ok sc0 w := (zero_of_info (n := 7) (by kernel_rfl)).1
/-- What Run answers. -/
def RunP (A : Option Addr) (cap : Nat) (L : List Int) (D K : Nat) (S : Int) (w : World) (e : Ending) (w' : World) : Prop :=
  ∃ B g, e = .returned (.tuple #[.pointer (some ⟨g, 0, none⟩), .int .i64 ((scTop L D K).to : Int), .bool (scTop L D K).ok]) ∧ Sn w' B g A cap L D K S (scNotes L D K S.toNat) (scTop L D K).evs ∧ w.heap.size ≤ B ∧ B ≤ w'.heap.size ∧ Below w.heap.size w w'
set_option maxRecDepth 4000 in
set_option maxHeartbeats 1000000 in
theorem ref_Run (w : World) (A : Option Addr) (cap : Nat) (L : List Int) (D K : Nat) (S : Int) (hr : Rd w w.heap.size .u8 A L) (hb : ByteL L) (hl : L.length ≤ 300) (hcp : L.length ≤ cap) (hD : D ≤ 64) (hK : K ≤ 1024) (hS : 1 ≤ S) :
    Calls Try.prog 8 #[.slice A L.length cap, vL D K S] w fun e w' => RunP A cap L D K S w e w' := by
  obtain ⟨w1, hw1, b1, S1⟩ := iblk1 w 24 #[.int .i64 D, .int .i64 K, .int .i64 S]
  have hsz1 : w1.heap.size = w.heap.size + 1 := by rw [← hw1]; simp
  have hg : w.heap.size < w1.heap.size := by omega
  obtain ⟨w2, hw2, b2, S2⟩ := iblk1 w1 46 (scells A L.length cap D K S (.slice none 0 0) (.slice none 0 0) (.slice none 0 0))
  have HS2 : Hid (Sn w2 w1.heap.size w1.heap.size A cap L D K S [] []) := ⟨_, _, _, b2, own_nil _ _ _ _, own_nil _ _ _ _, own_nil _ _ _ _, .inl rfl, (hr.below (S1.trans (S2.mono S1.size))).more S1.size, Nat.le_refl _⟩
  have HW2 : Hid (Below w1.heap.size w2 w2) := Below.refl _ _
  have HB2 : Hid (w1.heap.size ≤ w2.heap.size) := S2.size
  have HL2 : Hid (∀ v, Below w1.heap.size w2 v → v.cell? ⟨w.heap.size, 2, none⟩ = some (.int .i64 S)) := fun v hv => (hv.cell (p := ⟨w.heap.size, 2, none⟩) hg).trans (lblk (b1.on S2)).2.2
  have HE : Hid (∀ v g e, Below w1.heap.size w2 v → e = .returned (.tuple #[.pointer (some ⟨g, 0, none⟩), .int .i64 ((scTop L D K).to : Int), .bool (scTop L D K).ok]) → Sn v w1.heap.size g A cap L D K S (scNotes L D K S.toNat) (scTop L D K).evs → RunP A cap L D K S w e v) := fun v g e hv he hs =>
    ⟨_, g, he, hs, S1.size, Nat.le_trans S2.size hv.size, S1.trans ((S2.trans hv).mono S1.size)⟩
  obtain ⟨x1, x2, x3, x4⟩ := (bd_item (B := L) D K (L.length + 1) 0 1 false (Nat.zero_le _) (by omega)).toBd
  have HI : Hid (∀ ww, Sn ww w1.heap.size w1.heap.size A cap L D K S [] [] → w1.heap.size ≤ ww.heap.size → Calls Try.prog 24 #[.pointer (some ⟨w1.heap.size, 0, none⟩), .int .i64 0, .int .i64 1, .bool false] ww fun e w' => ScP w1.heap.size w1.heap.size A cap L D K S [] [] (scTop L D K) ww e w') :=
    fun ww hs hB => item_all w1.heap.size w1.heap.size A cap L D K S hb hl hcp hK hD (L.length + 1) 0 1 false (Nat.zero_le _) (by omega) (by omega) ww [] [] hs hB (by simp; omega) (by simp; omega)
  obtain ⟨p0, p1, p2⟩ := lblk b1
  have HZ := sc_zero
  unfold sc0 at HZ
  unfold scNotes at HE
  unfold ScP at HI
  unfold scTop at HI HE
  generalize scItem L D K (L.length + 1) 0 1 false = r at *
  obtain ⟨rN, rE, to, ok⟩ := r
  dsimp only at HI HE x1 x2 x3 x4
  have HNL : Hid (rN.length ≤ 2000) := show _ ≤ _ by
    cases hok : ok with
    | true => have := (x3 hok).1; omega
    | false => have := (x4 hok).1; omega
  have iS : (1 : Int) ≤ S := hS
  have HSN : Hid (S = (S.toNat : Int)) := show _ = _ by omega
  have HLS : Hid (Unit → (S < (L.length : Int) ↔ S.toNat < L.length)) := fun _ => by omega
  have HTL : Hid (Unit → ((to : Int) < (L.length : Int) ↔ to < L.length)) := fun _ => by omega
  obtain ⟨NI, hNI⟩ : ∃ z : Int, (L.length : Int) = z := ⟨_, rfl⟩
  obtain ⟨TI, hTI⟩ : ∃ z : Int, (to : Int) = z := ⟨_, rfl⟩
  rw [hNI] at HLS
  rw [hNI, hTI] at HTL
  rw [hTI] at HI HE
  have HTI := Lib.hid hTI
  unfold scells at hw2
  clear hTI hr hb hl hcp hD hK hS S1 S2 b1 b2 x1 x2 x3 x4 hsz1 hg
  unfold vL
  go_enter Try.func8, Try.ntmps8
  go_wp2_with fail
  refine (HI.out w2 HS2.out HB2.out).mono ?_
  rintro e3 w3 ⟨rfl, hs3, hw3⟩
  rw [List.nil_append, List.nil_append] at hs3
  have HS3 := Lib.hid hs3
  have HW3 := Lib.hid (HW2.out.trans hw3)
  have HB3 := Lib.hid (Nat.le_trans HB2.out hw3.size)
  clear hs3 hw3 HI p0 p1 p2 HZ hw2 hw1
  cases ok with
  | false =>
    rw [if_neg (fun h => by cases h.1)] at HE
    have q2 := HL2.out w3 HW3.out
    by_cases hs : S < NI
    · have hs' := (HLS.out ()).1 hs
      rw [if_pos hs'] at HE
      go_wp2_with fail
      refine (ref_noteI w3 w1.heap.size w1.heap.size A cap L D K S _ _ S.toNat S 1 HSN.out HS3.out HB3.out (by have := HNL.out; (try simp); omega)).mono ?_
      rintro e9 w9 ⟨rfl, hs9, hw9⟩
      have HS9 := Lib.hid hs9
      have HW9 := Lib.hid (HW3.out.trans hw9)
      clear hs9 hw9
      go_wp2_with fail
      refine bodyPost_ret (results_tmp3 rfl _ _ _) rfl ?_
      exact HE.out _ _ _ HW9.out rfl (by simpa [List.append_assoc] using HS9.out)
    · have hs' : ¬ S.toNat < L.length := fun h => hs ((HLS.out ()).2 h)
      rw [if_neg hs'] at HE
      go_wp2_with fail
      refine bodyPost_ret (results_tmp3 rfl _ _ _) rfl ?_
      exact HE.out _ _ _ HW3.out rfl (by simpa [List.append_assoc] using HS3.out)
  | true =>
    by_cases ht : TI < NI
    · have ht' := (HTL.out ()).1 ht
      rw [if_pos ⟨rfl, ht'⟩] at HE
      go_wp2_with fail
      refine (ref_noteI w3 w1.heap.size w1.heap.size A cap L D K S _ _ to TI 2 HTI.out.symm HS3.out HB3.out (by have := HNL.out; omega)).mono ?_
      rintro e4 w4 ⟨rfl, hs4, hw4⟩
      have HS4 := Lib.hid hs4
      have HW4 := Lib.hid (HW3.out.trans hw4)
      have HB4 := Lib.hid (Nat.le_trans HB3.out hw4.size)
      clear hs4 hw4
      have q2 := HL2.out w4 HW4.out
      by_cases hs : S < NI
      · have hs' := (HLS.out ()).1 hs
        rw [if_pos hs'] at HE
        go_wp2_with fail
        refine (ref_noteI w4 w1.heap.size w1.heap.size A cap L D K S _ _ S.toNat S 1 HSN.out HS4.out HB4.out (by have := HNL.out; (try simp); omega)).mono ?_
        rintro e9 w9 ⟨rfl, hs9, hw9⟩
        have HS9 := Lib.hid hs9
        have HW9 := Lib.hid (HW4.out.trans hw9)
        clear hs9 hw9
        go_wp2_with fail
        refine bodyPost_ret (results_tmp3 rfl _ _ _) rfl ?_
        exact HE.out _ _ _ HW9.out rfl (by simpa [List.append_assoc] using HS9.out)
      · have hs' : ¬ S.toNat < L.length := fun h => hs ((HLS.out ()).2 h)
        rw [if_neg hs'] at HE
        go_wp2_with fail
        refine bodyPost_ret (results_tmp3 rfl _ _ _) rfl ?_
        exact HE.out _ _ _ HW4.out rfl (by simpa [List.append_assoc] using HS4.out)
    · have ht' : ¬ (true = true ∧ to < L.length) := fun h => ht ((HTL.out ()).2 h.2)
      rw [if_neg ht'] at HE
      have q2 := HL2.out w3 HW3.out
      by_cases hs : S < NI
      · have hs' := (HLS.out ()).1 hs
        rw [if_pos hs'] at HE
        go_wp2_with fail
        refine (ref_noteI w3 w1.heap.size w1.heap.size A cap L D K S _ _ S.toNat S 1 HSN.out HS3.out HB3.out (by have := HNL.out; (try simp); omega)).mono ?_
        rintro e9 w9 ⟨rfl, hs9, hw9⟩
        have HS9 := Lib.hid hs9
        have HW9 := Lib.hid (HW3.out.trans hw9)
        clear hs9 hw9
        go_wp2_with fail
        refine bodyPost_ret (results_tmp3 rfl _ _ _) rfl ?_
        exact HE.out _ _ _ HW9.out rfl (by simpa [List.append_assoc] using HS9.out)
      · have hs' : ¬ S.toNat < L.length := fun h => hs ((HLS.out ()).2 h)
        rw [if_neg hs'] at HE
        go_wp2_with fail
        refine bodyPost_ret (results_tmp3 rfl _ _ _) rfl ?_
        exact HE.out _ _ _ HW3.out rfl (by simpa [List.append_assoc] using HS3.out)
end Go.Proofs.Ytchhbcmkhbfpoaa
