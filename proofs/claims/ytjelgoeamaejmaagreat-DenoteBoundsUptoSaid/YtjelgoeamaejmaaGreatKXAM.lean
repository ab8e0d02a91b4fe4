/- Package denote: a record as the teller meets it; Schema. -/
import Derived.Test.YtjelgoeamaejmaaGreatKXAL
namespace Go.Proofs.YtjelgoeamaejmaaGreat
open Go.RowKit

def Rec8 (cm : Nat) (fs : List Fl) (w : World) (e : Ending) (w' : World) : Prop := ∃ w1 : World, w.heap.size ≤ w1.heap.size ∧ RecPost cm fs w1 e w' ∧ Below w.heap.size w w'
set_option maxRecDepth 100000 in
set_option maxHeartbeats 2000000 in
theorem den_ruleOf8 (lo hi : Int) (v : It) (l : List Int) (fs : List Fl) (p : Pl) (cm n : Nat) (w : World) (hn : n ≤ w.heap.size) (hf : RdF w n p.Af fs) (hl : fs.length ≤ 1048576) (hk : ∀ f ∈ fs, f.key.size ≤ 1048576) :
    Calls Tryz.prog 35 #[vN ⟨8, lo, hi, v, l, fs⟩ p, standsV cm] w fun e w' => Rec8 cm fs w e w' := by
  obtain ⟨w1, hw1, b1, b2, S⟩ := two_boxes w 47 59 (nc ⟨8, lo, hi, v, l, fs⟩ p) #[standsV cm]
  have HS := Lib.hid S
  have HRC := Lib.hid (den_recordRule lo hi v l fs p cm n w1 (Nat.le_trans hn S.size) (hf.keep (S.mono hn)) hl hk)
  have c2 : w1.cell? ⟨w.heap.size + 1, 0, none⟩ = some (standsV cm) := by rw [b2.cell]; rfl
  unfold nc at b1 hw1
  obtain ⟨p0, p1, p2, p3, p4, p5, p6, p7, p8⟩ := nblk b1
  unfold vN at HRC
  unfold standsV at HRC hw1 c2
  unfold vN standsV
  dsimp only at *
  clear b1 b2 S hn hf hl hk
  go_enter Tryz.func35, Tryz.ntmps35
  go_wp2_with (first
    | (go_at_call 54; refine HRC.out.mono ?_; rintro e w2 ⟨gs, gm, g6, bm, rfl, hrest⟩; have HRE := Lib.hid hrest; clear hrest)
    | fail)
  go_ret
  exact ⟨w1, HS.out.size, ⟨gs, gm, g6, bm, rfl, HRE.out⟩, HS.out.trans (HRE.out.2.2.2.2.2.2.2.2.mono HS.out.size)⟩
theorem rule_record {w0 : World} {x0 : It} {ps : List Pt} {node n nn : Nat} {y : Nd} (p : Pl) (W : World) (B cm g : Nat) (R : Nat → Nat → Bool) (hk : y.k = 8) (hnn : nn ≤ w0.heap.size) (hW : Below w0.heap.size w0 W) (hy : NdB W nn y p) (hsp : Sp x0 ps.length ps) (hat : ∀ p ∈ ps, AtB w0 nn p.x p.A p.cap) (ho : okN y) (hfl : y.f.length ≤ 1048576) (hnl : n ≤ 1048576) (hpl : ps.length ≤ 1000000000)
    (hfs : ∀ f ∈ y.f, ((node + 1 : Nat) : Int) ≤ f.node ∧ f.node < (n : Int)) (hev : ∀ q ∈ ps, q.x.k = 5 → q.x.l.length % 2 = 0) (hsz : ∀ q ∈ ps, ∀ z ∈ q.x.l, z.s.size ≤ 1048576) (hll : ∀ q ∈ ps, q.x.l.length ≤ 1000000000)
    (hr : ∀ a q, ps[a]? = some q → R node a = recR y.f R q.x q.it.toNat) :
    Calls Tryz.prog 35 #[vN y p, standsV cm] W fun e W' => ∃ fid lb, e = .returned (.func (.func fid) #[] lb) ∧ (fid = 61 ∨ fid = 58 ∨ fid = 76) ∧ Rule w0 W W' B cm g n ps.length node R ps fid lb ∧ Below W.heap.size W W' := by
  obtain ⟨k, lo, hi, v, l, fs⟩ := y
  obtain rfl : k = 8 := hk
  refine (den_ruleOf8 lo hi v l fs p cm nn W (Nat.le_trans hnn hW.size) hy.f hfl (fun f hf => ho.f f hf)).mono ?_
  rintro e W' ⟨w1, hsz1, ⟨gs, gm, g6, bm, rfl, h1, h2, h3, h4, hgs, hgm, hg6, hM, hB⟩, hS⟩
  refine ⟨_, _, rfl, .inr (.inr rfl), ⟨fun W2 H a q hq hT hW2 hkeep => ?_⟩, hS⟩
  have hal := (List.getElem?_eq_some_iff.1 hq).1
  obtain ⟨c, hc, hkids⟩ := hsp.done a q hal hq
  rw [hr a q hq, show q.it.toNat = c by omega]
  have hmem := List.mem_of_getElem? hq
  have hcm : ∀ i, i < q.x.l.length → c + i < ps.length := fun i hi => by
    obtain ⟨q', h, _⟩ := hkids i _ hi (List.getElem?_eq_getElem hi)
    exact (List.getElem?_eq_some_iff.1 h).1
  have up : ∀ {b : Nat} {t : TypeId} {cs : Array Value}, w1.heap.size ≤ b → Blk W' b t cs → Blk W2 b t cs := fun hb hk => (hkeep _ (Nat.le_trans hsz1 hb) hk.lt).trans hk
  exact den_rec1 fs q a c gm gs g6 bm B H cm g n ps.length (node + 1) nn R W2 (up h1 hgs) (up h2 hgm) (up h3 hg6) (hM.heap (hkeep _ (Nat.le_trans hsz1 h4) hM.lt)) hT ((hat q hmem).keep (hW2.mono hnn)) (Nat.le_trans hnn hW2.size) hfs hnl hfl hc hcm hpl (hll q hmem) (hev q hmem) (hsz q hmem)
end Go.Proofs.YtjelgoeamaejmaaGreat
