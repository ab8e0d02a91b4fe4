/- Package plain: Prefix. -/
import Derived.Test.YtchhbcmkhbfpoaaKBL
import Derived.Test.YtchhbcmkhbfpoaaKAO
import Derived.OpenShut
namespace Go.Proofs.Ytchhbcmkhbfpoaa
open Go.RowKit

/-- A struct in memory, a number, a struct in memory. -/
theorem results_bnb {P : Program} {fn : Func} {p a q : Tmp} {ty tz : TypeId} (h : fn.results = #[.cell p ty, .tmp a, .cell q tz]) (tmps : Array Value) {w : World} {g g' : Nat} {t t' : TypeId} {cs cs' : Array Value} {d d' : TypeDesc} (hp : tmps.getD p undef = .pointer (some ⟨g, 0, none⟩))
    (hg : Blk w g t cs) (hu : P.underlying ty = some d) (hd : d.isRow = true) (hi : (P.info? ty).map (·.size) = some cs.size) (hp' : tmps.getD q undef = .pointer (some ⟨g', 0, none⟩))
    (hg' : Blk w g' t' cs') (hu' : P.underlying tz = some d') (hd' : d'.isRow = true) (hi' : (P.info? tz).map (·.size) = some cs'.size) :
    (results fn tmps).run P w = .ok (.tuple #[.agg cs, tmps.getD a undef, .agg cs']) w := by
  have h1 : tmps[p]?.getD undef = .pointer (some ⟨g, 0, none⟩) := by simpa using hp
  have h2 : tmps[q]?.getD undef = .pointer (some ⟨g', 0, none⟩) := by simpa using hp'
  have hl := run_loadVar_row w g t ty cs (0, 0) d hg hu (by cases d <;> simp_all [TypeDesc.isRow]) hi
  have hl' := run_loadVar_row w g' t' tz cs' (0, 0) d' hg' hu' (by cases d' <;> simp_all [TypeDesc.isRow]) hi'
  simp [results, h, h1, h2, asAddr, hl, hl']
theorem am_done {s : AQ} {x : AC} (h : AM s x) : (x.done && x.wrong == 0) = s.isFin := by
  have hc := h.ctl
  rw [h.wrong]
  obtain ⟨st, ct⟩ := s
  unfold AQ.isFin
  cases ct with
  | head q => obtain ⟨_, cd, _⟩ := hc; rw [cd]; rfl
  | text n t u => obtain ⟨_, cd, _⟩ := hc; rw [cd]; rfl
  | ended => exact absurd hc (fun h => h)
  | fin => obtain ⟨cd, _⟩ := hc; rw [cd]; rfl
theorem am_close {s : AQ} {x : AC} (h : AM s x) (hf : s.isFin = false) : closeV x = (9, x.handed) := by
  have hd := am_done h
  rw [hf, h.wrong] at hd
  unfold closeV
  rw [if_neg (by rw [h.wrong]; simp)]
  cases hx : x.done with
  | false => rfl
  | true => rw [hx] at hd; cases hd
/-- What Prefix answers. -/
def PfxP (D K : Nat) (S : Int) (L : List Int) (w : World) (r : Ending) (w' : World) : Prop :=
  ((∃ (k : Nat) (x : It) (Ax : Option Addr) (cx : Nat), 1 ≤ k ∧ k ≤ L.length ∧ Not0 D K S L (k - 1) ∧ (wv D K S (L.take k)).1 = 0 ∧ prs (L.take k) (k + 1) 0 = some (x, k) ∧ r = .returned (.tuple #[vI x Ax cx, .int .i64 (k : Int), .agg #[.int .i64 0, .int .i64 0]]) ∧ AtS w' (fun b => w.heap.size ≤ b) x Ax cx) ∨
  (Not0 D K S L L.length ∧ r = .returned (.tuple #[.agg #[.int .i64 0, .int .u64 0, .string ⟨#[]⟩, .slice none 0 0], .int .i64 0, .agg #[.int .i64 (wv D K S L).1, .int .i64 (wv D K S L).2]]))) ∧ Below w.heap.size w w'
/-- Both results are filled. -/
theorem pfx_fill {w w0 : World} {B gI gV : Nat} (hI : Blk w gI 56 #[.int .i64 0, .int .u64 0, .string ⟨#[]⟩, .slice none 0 0]) (hV : Blk w gV 51 #[.int .i64 0, .int .i64 0]) (hne : gI ≠ gV) (hw : Below B w0 w) (h1 : B ≤ gI) (h2 : B ≤ gV) (k n : Int) (s : ByteArray) (A : Option Addr) (l c : Nat) (e p : Int) :
    ∃ w1 w2, (Instr.storeAt 56 (.pointer (some ⟨gI, 0, none⟩)) (.agg #[.int .i64 k, .int .u64 n, .string s, .slice A l c])).run Try.prog w = .ok () w1 ∧
      (Instr.storeAt 51 (.pointer (some ⟨gV, 0, none⟩)) (.agg #[.int .i64 e, .int .i64 p])).run Try.prog w1 = .ok () w2 ∧
      Blk w2 gI 56 #[.int .i64 k, .int .u64 n, .string s, .slice A l c] ∧ Blk w2 gV 51 #[.int .i64 e, .int .i64 p] ∧ Below B w0 w2 ∧ (∀ j, j < w.heap.size → j ≠ gI → j ≠ gV → w2.heap[j]? = w.heap[j]?) := by
  obtain ⟨r1, r2, r3, r4⟩ := it_fill hI hw h1 k n s A l c
  have hV1 : Blk (w.setRow gI #[.int .i64 k, .int .u64 n, .string s, .slice A l c]) gV 51 #[.int .i64 0, .int .i64 0] := hV.only r4 (Ne.symm hne)
  refine ⟨_, _, r1, run_store_all hV1 vd_info rfl (vd_one e p), r2.farRow hne _, hV1.setRow _, below_row r3 h2 _, fun j hj h3 h4 => ?_⟩
  exact (setRow_far _ _ h4).trans (setRow_far _ _ h3)
set_option maxRecDepth 100000 in
set_option maxHeartbeats 4000000 in
theorem plain_Prefix (w : World) (A : Option Addr) (cap : Nat) (L : List Int) (D K : Nat) (S : Int) (hr : Rd w w.heap.size .u8 A L) (hb : ByteL L) (hl : L.length ≤ 300) (hcp : L.length ≤ cap) (h1 : 1 ≤ D) (h2 : D ≤ 64) (k1 : 1 ≤ K) (k2 : K ≤ 1024) (s1 : 1 ≤ S) (s2 : S ≤ 2305843009213693951) :
    Calls Try.prog 17 #[.slice A L.length cap, vL D K S] w fun e w' => PfxP D K S L w e w' := by
  obtain ⟨w1, hw1, b1, S1⟩ := iblk1 w 24 #[.int .i64 D, .int .i64 K, .int .i64 S]
  have hsz1 : w1.heap.size = w.heap.size + 1 := by rw [← hw1]; simp
  obtain ⟨w2, hw2, b2, S2⟩ := iblk1 w1 56 #[.int .i64 0, .int .u64 0, .string ⟨#[]⟩, .slice none 0 0]
  have hsz2 : w2.heap.size = w.heap.size + 2 := by rw [← hw2]; simp [hsz1]
  obtain ⟨w3, hw3, b3, S3⟩ := iblk1 w2 51 #[.int .i64 0, .int .i64 0]
  have hsz3 : w3.heap.size = w.heap.size + 3 := by rw [← hw3]; simp [hsz2]
  rw [hsz1] at b2
  rw [hsz2] at b3
  have b1' := (b1.on S2).on S3
  have b2' := b2.on S3
  obtain ⟨p0, p1, p2⟩ := lblk b1'
  have S13 : Below w.heap.size w w3 := (S1.trans (S2.mono S1.size)).trans (S3.mono (by omega))
  have HN := Lib.hid (auto_New w3 D K S h1 h2 k1 k2 s1 s2)
  have HZ := vd_zero
  have HZI := item_zero
  -- what comes behind New
  have HX : Hid (∀ w4 own a s f, Aut w4 own a f D K [] (ac0 D K S s) → w3.heap.size ≤ a → (∀ j, own j ≠ 0 → w3.heap.size ≤ j) → Below w3.heap.size w3 w4 →
      (∀ j, SA own a j → w.heap.size + 3 ≤ j) ∧ Blk w4 (w.heap.size + 1) 56 #[.int .i64 0, .int .u64 0, .string ⟨#[]⟩, .slice none 0 0] ∧ Blk w4 (w.heap.size + 2) 51 #[.int .i64 0, .int .i64 0] ∧ Below w.heap.size w w4 ∧ w.heap.size + 3 ≤ w4.heap.size ∧ Rd w4 w.heap.size .u8 A L) := fun w4 own a s f hA ha ho hb3 => by
    have hbw : Below w.heap.size w w4 := S13.trans (hb3.mono (by omega))
    refine ⟨fun j hj => ?_, b2'.on hb3, b3.on hb3, hbw, by have := hb3.size; omega, hr.below hbw⟩
    rcases hj with rfl | hj
    · omega
    · have := ho j hj; omega
  have HLen : Hid ((L.length : Int) ≤ 300) := by show _ ≤ _; omega
  have HLN : Hid (Unit → L.length ≤ 300) := fun _ => hl
  have HCP := Lib.hid (fun _ : Unit => hcp)
  have HBL := Lib.hid hb
  have HS0 : Hid (0 ≤ S) := by show _ ≤ _; omega
  clear S1 S2 S3 S13 b1 b2 b3 b1' b2' hr hb hl hcp hsz3 h1 h2 k1 k2 s1 s2
  unfold vL at HN ⊢
  unfold vcells at HZ
  dsimp only at HZ
  generalize hN : (L.length : Int) = N at *
  have HN2 := Lib.hid hN
  have HNn : Hid (Unit → N.toNat = L.length) := fun _ => by rw [← hN]; rfl
  go_enter Try.func17, Try.ntmps17
  go_wp2_with fail
  refine HN.out.mono ?_
  rintro e w4 ⟨own, a, s, f, rfl, hA, ha, ho, hb4⟩
  obtain ⟨hSA, bI, bV, hb, hsz, hrd⟩ := HX.out w4 own a s f hA ha ho hb4
  have HSA := Lib.hid hSA
  have HA := Lib.hid hA
  have HFIL : Hid (∀ w', Below w.heap.size w w' → Blk w' (w.heap.size + 1) 56 #[.int .i64 0, .int .u64 0, .string ⟨#[]⟩, .slice none 0 0] → Blk w' (w.heap.size + 2) 51 #[.int .i64 0, .int .i64 0] → ∀ (k n : Int) (s : ByteArray) (A : Option Addr) (l c : Nat) (e p : Int),
    ∃ w1 w2, (Instr.storeAt 56 (.pointer (some ⟨w.heap.size + 1, 0, none⟩)) (.agg #[.int .i64 k, .int .u64 n, .string s, .slice A l c])).run Try.prog w' = .ok () w1 ∧
      (Instr.storeAt 51 (.pointer (some ⟨w.heap.size + 2, 0, none⟩)) (.agg #[.int .i64 e, .int .i64 p])).run Try.prog w1 = .ok () w2 ∧
      Blk w2 (w.heap.size + 1) 56 #[.int .i64 k, .int .u64 n, .string s, .slice A l c] ∧ Blk w2 (w.heap.size + 2) 51 #[.int .i64 e, .int .i64 p] ∧ Below w.heap.size w w2 ∧ (∀ j, j < w'.heap.size → j ≠ w.heap.size + 1 → j ≠ w.heap.size + 2 → w2.heap[j]? = w'.heap[j]?)) :=
    fun w' hb' bI' bV' k n s A l c e p => pfx_fill bI' bV' (by omega) hb' (by omega) (by omega) k n s A l c e p
  -- behind the loop
  have HCL : Hid (∀ wr, Wi (SA own a) w4 wr → Below w.heap.size w wr ∧ Blk wr (w.heap.size + 1) 56 #[.int .i64 0, .int .u64 0, .string ⟨#[]⟩, .slice none 0 0] ∧ Blk wr (w.heap.size + 2) 51 #[.int .i64 0, .int .i64 0] ∧ Rd wr w.heap.size .u8 A L ∧ w.heap.size + 3 ≤ wr.heap.size) := fun wr hw => by
    have hb2 : Below (w.heap.size + 3) w4 wr := hw.below hSA hsz
    exact ⟨hb.trans (hb2.mono (by omega)), bI.below hb2 (by omega), bV.below hb2 (by omega), hrd.below (hb2.mono (by omega)), by have := hw.size; omega⟩
  clear hSA bI bV hb hsz hrd hA ha ho hb4 HX HN
  go_wp2_with fail
  go_loopw [25] (fun i wr => ∃ (k : Nat) (sq : AQ) (x : AC), (k : Int) ≤ N ∧ i = .int .i64 k ∧ Aut wr own a f D K sq.st x ∧ AM sq x ∧ AOk D K sq ∧ x.handed = k ∧ x.S = S ∧ Pre D K S L k sq ∧ Not0 D K S L k ∧ sq.isFin = false ∧ Wi (SA own a) w4 wr) (fun i _ => L.length - (intOf i).toNat)
  case atStart => exact ⟨0, aq0, _, by have := HN2.out; omega, rfl, HA.out, am_zero D K S s, AOk.zero D K, rfl, rfl, pre_zero, fun j h1 h2 => by omega, rfl, Wi.refl⟩
  case round =>
    obtain ⟨k, sq, x, hk, rfl, hAu, hM, hO, hh, hS, hP, hNo, hnf, hW⟩ := hrel
    obtain ⟨cB, cI, cV, cR, cZ⟩ := HCL.out wr hW
    by_cases hlt : (k : Int) < N
    · have hltn : k < L.length := by have := HN2.out; omega
      obtain ⟨b, o, rfl, hbb, hcell⟩ := cR.get hltn
      have hc := HBL.out (L.getD k 0) (by rw [List.getD_eq_getElem?_getD, List.getElem?_eq_getElem hltn]; exact List.getElem_mem hltn)
      have hpn := fun {s' : AQ} => @pre_next D K S L k sq s' hP hltn HS0.out
      have hpe := fun h0 {j : Nat} hj => @pre_err D K S L k sq hP hltn HS0.out h0 j hj
      generalize L.getD k 0 = c at *
      have hk0 : (0 : Int) ≤ k := by omega
      have hkm : (k : Int) < 4611686018427387904 := by have := HLen.out; omega
      by_cases hst : stepK x.S k (fstep D K k sq c) = 0
      · have HT : Hid (Calls Try.prog 11 #[.pointer (some ⟨a, 0, none⟩), .int .u8 c, .nilFunc] wr fun e w' => e = .returned (.int .i64 0) ∧ (∃ sq' x', Aut w' own a f D K sq'.st x' ∧ AM sq' x' ∧ AOk D K sq' ∧ x'.handed = ((k + 1 : Nat) : Int) ∧ x'.S = S ∧ Pre D K S L (k + 1) sq') ∧ Wi (SA own a) w4 w') := by
          refine (auto_Step0 wr own a f D K k sq x c hAu hO hM hc.1 hc.2 hh hkm hst).mono ?_
          rintro e w' ⟨⟨rfl, s', x', hn, hA', hM', hh', hS'⟩, hw⟩
          exact ⟨rfl, ⟨s', x', hA', hM', aok_next hO hc.1 hc.2 hst hn, by rw [hh']; omega, hS'.trans hS, hpn (hS ▸ hst) hn⟩, hW.trans hw⟩
        have HNo := Lib.hid hNo
        have hNL := HN2.out
        have HLT := Lib.hid (fun _ : Unit => hltn)
        clear hAu hM hO hh hS hP hNo hnf hW cB cI cV cR cZ hc hst hpn hpe HA hbb hltn
        go_wp2_with fail
        refine HT.out.mono ?_
        rintro e w5 ⟨rfl, ⟨sq', x', y1, y2, y3, y4, y5, y6⟩, hw5⟩
        have HDn := Lib.hid (auto_Done w5 a x' y1.blk)
        rw [am_done y2] at HDn
        cases hf : sq'.isFin with
        | false =>
          rw [hf] at HDn
          have HXX : Hid (∃ (k' : Nat) (sq : AQ) (x : AC), (k' : Int) ≤ N ∧ (.int .i64 ((k : Int) + 1) : Value) = .int .i64 k' ∧ Aut w5 own a f D K sq.st x ∧ AM sq x ∧ AOk D K sq ∧ x.handed = k' ∧ x.S = S ∧ Pre D K S L k' sq ∧ Not0 D K S L k' ∧ sq.isFin = false ∧ Wi (SA own a) w4 w5) := by
            refine ⟨k + 1, sq', x', by omega, by go_num, y1, y2, y3, y4, y5, y6, not_next HNo.out ?_, hf, hw5⟩
            rw [pre_wv y6, hf]
            show (9 : Int) ≠ 0
            decide
          have em : L.length - (k + 1) < L.length - k := by have := HLT.out (); omega
          have HEM := Lib.hid (fun _ : Unit => em)
          clear y1 y2 y3 y4 y5 y6 hw5 HT em HNo HLT hf
          go_wp2_with fail
          refine HDn.out.mono ?_
          rintro e w8 ⟨rfl, rfl⟩
          clear HDn
          go_wp2_with fail
          go_roundw
          case rel =>
            obtain ⟨k', sq0, x0, z1, z2, z3⟩ := HXX.out
            exact ⟨k', sq0, x0, z1, by first | exact z2 | (rw [← z2]; go_num), z3⟩
          case measure => simp [intOf]; have := HEM.out (); omega
        | true =>
          rw [hf] at HDn
          have HLe := Lib.hid (auto_Len w5 a x' y1.blk)
          rw [y4] at HLe
          have hwv : (wv D K S (L.take (k + 1))).1 = 0 := by rw [pre_wv y6, hf]; rfl
          have htk : (L.take (k + 1)).length = k + 1 := by have := HLT.out (); rw [List.length_take]; omega
          have hbt : ByteL (L.take (k + 1)) := fun c hc => HBL.out c (List.mem_of_mem_take hc)
          obtain ⟨xi, hxi⟩ := prs_verdict hbt hwv
          rw [htk] at hxi
          obtain ⟨g1, g2, g3, g4, g5⟩ := HCL.out w5 hw5
          have hxl : prs L (k + 1 + 1) 0 = some (xi, k + 1) := by
            have := prs_more hbt (L.drop (k + 1)) (k + 1 + 1) (k + 1 + 1) 0 _ (Nat.le_refl _) hxi
            rwa [List.take_append_drop] at this
          have hrd := plain_read L HBL.out (HLN.out ()) (k + 1 + 1) 0 xi (k + 1) w5 (some ⟨b, o, none⟩) cap w.heap.size (by omega) hxl (by rw [List.drop_zero]; exact g4) (by rw [Nat.sub_zero]; exact HCP.out ())
          rw [Nat.sub_zero] at hrd
          have ea : a < w5.heap.size := y1.blk.lt
          have NA : Hid (a ≠ w.heap.size + 1 ∧ a ≠ w.heap.size + 2) := by have := HSA.out a (.inl rfl); show _ ∧ _; omega
          have HRD : Hid (Calls Try.prog 30 #[.slice (some ⟨b, o, none⟩) L.length cap] w5 fun r w' => ∃ Ax cx A' l' c', r = .returned (.tuple #[.agg #[.int .i64 xi.k, .int .u64 xi.n, .string xi.s, .slice Ax xi.l.length cx], .slice A' l' c']) ∧ AtS w' (fun b => w5.heap.size ≤ b) xi Ax cx ∧ Below w5.heap.size w5 w') := by
            refine hrd.mono ?_
            rintro r w' ⟨Ax, cx, A', c', rfl, q1, q2, q3, q4⟩
            exact ⟨Ax, cx, A', _, c', rfl, q1, q4⟩
          have HRES := Lib.hid (And.intro hwv hxi)
          have HG := Lib.hid (And.intro g1 (And.intro g2 (And.intro g3 g5)))
          have hx1 := y1.blk
          have HX1 := Lib.hid hx1
          have hk1 : (((k + 1 : Nat) : Int)) = (k : Int) + 1 := by omega
          rw [hk1] at HLe
          have HHK := Lib.hid (fun _ : Unit => HLT.out ())
          have HY4 := Lib.hid (y4.trans hk1)
          clear y1 y2 y3 y4 y5 y6 hw5 HT hwv htk hbt hxi hxl hrd g1 g2 g3 g4 g5 HLT hf hx1 HCL HBL HCP hNL hcell hk1 hlt hk HN2 HNn HLen HLe hkm hk0
          go_wp2_with fail
          refine HDn.out.mono ?_
          rintro e w5 ⟨rfl, rfl⟩
          go_wp2_with fail
          refine HDn.out.mono ?_
          rintro e w5 ⟨rfl, rfl⟩
          clear HDn
          go_wp2_with fail
          refine HRD.out.mono ?_
          rintro e w6 ⟨Ax, cx, A', l', c', rfl, hat, hb6⟩
          obtain ⟨g1, g2, g3, g5⟩ := HG.out
          have b7 : Blk (w6.alloc (.cells #[.int .i64 xi.k, .int .u64 xi.n, .string xi.s, .slice Ax xi.l.length cx] 56)) w6.heap.size 56 #[.int .i64 xi.k, .int .u64 xi.n, .string xi.s, .slice Ax xi.l.length cx] := Blk.fresh _ _ _
          have S7 := below_alloc w6 (.cells #[.int .i64 xi.k, .int .u64 xi.n, .string xi.s, .slice Ax xi.l.length cx] 56)
          obtain ⟨w7, hw7⟩ : ∃ w7, w6.alloc (.cells #[.int .i64 xi.k, .int .u64 xi.n, .string xi.s, .slice Ax xi.l.length cx] 56) = w7 := ⟨_, rfl⟩
          rw [hw7] at b7 S7
          have hb57 : Below w5.heap.size w5 w7 := hb6.trans (S7.mono hb6.size)
          have hat7 : AtS w7 (fun b => w5.heap.size ≤ b ∧ b < w6.heap.size) xi Ax cx := ⟨hat.le, hat.nil, AtL.keep (fun b hb _ => S7.block b hb.2) (fun _ h => h) _ _ hat.at_.bound⟩
          have HLn : Hid (∀ W, Blk W a 73 x'.cells → Calls Try.prog 13 #[.pointer (some ⟨a, 0, none⟩)] W fun e w' => e = .returned (.int .i64 ((k : Int) + 1)) ∧ w' = W) := fun W hW => by
            have := auto_Len W a x' hW
            rwa [HY4.out] at this
          have HBa := Lib.hid (HX1.out.on hb57)
          have bI := g2.on hb57
          have bV := g3.on hb57
          have BE : Hid (∀ W, Below w7.heap.size w7 W ∨ True → True) := fun _ _ => trivial
          have hs7 := S7.size
          have HBw : Hid (Below w.heap.size w w7) := g1.trans (hb57.mono (by omega))
          have HAT := Lib.hid hat7
          have HH : Hid (w.heap.size + 3 ≤ w5.heap.size) := g5
          have na1 : a ≠ w.heap.size + 1 := fun e => NA.out.1 e
          have na2 : a ≠ w.heap.size + 2 := fun e => NA.out.2 e
          have c0 := b7.cell 0
          have c1 := b7.cell 1
          have c2 := b7.cell 2
          have c3 := b7.cell 3
          have i0 := bI.cell 0
          have i1 := bI.cell 1
          have i2 := bI.cell 2
          have i3 := bI.cell 3
          have v0 := bV.cell 0
          have v1 := bV.cell 1
          have if0 := bI.free 0
          have if1 := bI.free 1
          have if2 := bI.free 2
          have if3 := bI.free 3
          have vf0 := bV.free 0
          have vf1 := bV.free 1
          have n61 : w6.heap.size ≠ w.heap.size + 1 := by have := hb6.size; omega
          have n62 : w6.heap.size ≠ w.heap.size + 2 := by have := hb6.size; omega
          have n12 : w.heap.size + 1 ≠ w.heap.size + 2 := by omega
          have n21 : w.heap.size + 2 ≠ w.heap.size + 1 := by omega
          simp only [List.getElem?_toArray, List.getElem?_cons_zero, List.getElem?_cons_succ] at c0 c1 c2 c3 i0 i1 i2 i3 v0 v1
          have HBI := Lib.hid bI
          have HBV := Lib.hid bV
          have O1 : Only (w.heap.size + 1) w7 ((((w7.setCell ⟨w.heap.size + 1, 0, none⟩ (.int .i64 xi.k)).setCell ⟨w.heap.size + 1, 1, none⟩ (.int .u64 xi.n)).setCell ⟨w.heap.size + 1, 2, none⟩ (.string xi.s)).setCell ⟨w.heap.size + 1, 3, none⟩ (.slice Ax xi.l.length cx)) := ((((Only.refl _ w7).put 0 _).put 1 _).put 2 _).put 3 _
          have O2 : Only (w.heap.size + 2) ((((w7.setCell ⟨w.heap.size + 1, 0, none⟩ (.int .i64 xi.k)).setCell ⟨w.heap.size + 1, 1, none⟩ (.int .u64 xi.n)).setCell ⟨w.heap.size + 1, 2, none⟩ (.string xi.s)).setCell ⟨w.heap.size + 1, 3, none⟩ (.slice Ax xi.l.length cx)) (((((((w7.setCell ⟨w.heap.size + 1, 0, none⟩ (.int .i64 xi.k)).setCell ⟨w.heap.size + 1, 1, none⟩ (.int .u64 xi.n)).setCell ⟨w.heap.size + 1, 2, none⟩ (.string xi.s)).setCell ⟨w.heap.size + 1, 3, none⟩ (.slice Ax xi.l.length cx)).setCell ⟨w.heap.size + 2, 0, none⟩ (.int .i64 0)).setCell ⟨w.heap.size + 2, 1, none⟩ (.int .i64 0)).drew) := (((Only.refl _ ((((w7.setCell ⟨w.heap.size + 1, 0, none⟩ (.int .i64 xi.k)).setCell ⟨w.heap.size + 1, 1, none⟩ (.int .u64 xi.n)).setCell ⟨w.heap.size + 1, 2, none⟩ (.string xi.s)).setCell ⟨w.heap.size + 1, 3, none⟩ (.slice Ax xi.l.length cx))).put 0 _).put 1 _).drew
          have H3 : Hid (Blk (((((((w7.setCell ⟨w.heap.size + 1, 0, none⟩ (.int .i64 xi.k)).setCell ⟨w.heap.size + 1, 1, none⟩ (.int .u64 xi.n)).setCell ⟨w.heap.size + 1, 2, none⟩ (.string xi.s)).setCell ⟨w.heap.size + 1, 3, none⟩ (.slice Ax xi.l.length cx)).setCell ⟨w.heap.size + 2, 0, none⟩ (.int .i64 0)).setCell ⟨w.heap.size + 2, 1, none⟩ (.int .i64 0)).drew) (w.heap.size + 1) 56 #[.int .i64 xi.k, .int .u64 xi.n, .string xi.s, .slice Ax xi.l.length cx]) := Blk.only ((((bI.put 0 _).put 1 _).put 2 _).put 3 _) O2 n12
          have H4 : Hid (Blk (((((((w7.setCell ⟨w.heap.size + 1, 0, none⟩ (.int .i64 xi.k)).setCell ⟨w.heap.size + 1, 1, none⟩ (.int .u64 xi.n)).setCell ⟨w.heap.size + 1, 2, none⟩ (.string xi.s)).setCell ⟨w.heap.size + 1, 3, none⟩ (.slice Ax xi.l.length cx)).setCell ⟨w.heap.size + 2, 0, none⟩ (.int .i64 0)).setCell ⟨w.heap.size + 2, 1, none⟩ (.int .i64 0)).drew) (w.heap.size + 2) 51 #[.int .i64 0, .int .i64 0]) := (((bV.only O1 n21).put 0 _).put 1 _).drew
          have H6 : Hid (Below w.heap.size w (((((((w7.setCell ⟨w.heap.size + 1, 0, none⟩ (.int .i64 xi.k)).setCell ⟨w.heap.size + 1, 1, none⟩ (.int .u64 xi.n)).setCell ⟨w.heap.size + 1, 2, none⟩ (.string xi.s)).setCell ⟨w.heap.size + 1, 3, none⟩ (.slice Ax xi.l.length cx)).setCell ⟨w.heap.size + 2, 0, none⟩ (.int .i64 0)).setCell ⟨w.heap.size + 2, 1, none⟩ (.int .i64 0)).drew)) := (HBw.out.trans (O1.below (by omega) HBw.out.size)).trans (O2.below (by omega) (Nat.le_trans HBw.out.size O1.size))
          have H5 : Hid (AtS (((((((w7.setCell ⟨w.heap.size + 1, 0, none⟩ (.int .i64 xi.k)).setCell ⟨w.heap.size + 1, 1, none⟩ (.int .u64 xi.n)).setCell ⟨w.heap.size + 1, 2, none⟩ (.string xi.s)).setCell ⟨w.heap.size + 1, 3, none⟩ (.slice Ax xi.l.length cx)).setCell ⟨w.heap.size + 2, 0, none⟩ (.int .i64 0)).setCell ⟨w.heap.size + 2, 1, none⟩ (.int .i64 0)).drew) (fun b => w.heap.size ≤ b) xi Ax cx) := ⟨hat7.le, hat7.nil, AtL.keep (w := w7) (fun b hb hl => (O2.block b (Nat.lt_of_lt_of_le hl O1.size) (fun e => by injection e with e; have := HH.out; omega)).trans (O1.block b hl (fun e => by injection e with e; have := HH.out; omega))) (fun b hb => by have := HH.out; omega) _ _ hat7.at_⟩
          clear b7 S7 hb57 hat7 hat hb6 HG HX1 HRD g1 g2 g3 g5 HFIL HY4 ea bI bV BE hs7 O1 O2 HAT HBw HH
          go_wp2_with fail
          go_region_with (go_at_call 13; refine (HLn.out _ (by repeat (first | exact HBa.out | exact HBa.out.drew | refine Blk.far ?_ na1 _ | refine Blk.far ?_ na2 _ | refine Blk.drew ?_))).mono ?_; rintro e w' ⟨rfl, rfl⟩)
          all_goals
            go_wp2_with fail
            refine bodyPost_ret (results_bnb rfl _ rfl H3.out Try.underlying56 rfl it_info rfl H4.out Try.underlying51 rfl vd_info) rfl ?_
            exact ⟨.inl ⟨k + 1, xi, Ax, cx, by omega, HHK.out (), HNo.out, HRES.out.1, HRES.out.2, rfl, H5.out⟩, H6.out⟩
      · obtain ⟨e0, he0⟩ : ∃ e0, stepK x.S k (fstep D K k sq c) = e0 := ⟨_, rfl⟩
        have hall : Not0 D K S L L.length := fun j h1 h2 => by
          rcases Nat.lt_or_ge k j with h3 | h3
          · rw [hpe (hS ▸ hst) h3]; exact hS ▸ hst
          · exact hNo j h1 h3
        have hwl : wv D K S L = (e0, (k : Int)) := by
          have := hpe (hS ▸ hst) hltn
          rw [List.take_length] at this
          rw [this, ← he0, hS]
        have HT : Hid (Calls Try.prog 11 #[.pointer (some ⟨a, 0, none⟩), .int .u8 c, .nilFunc] wr fun e w' => e = .returned (.int .i64 e0) ∧ (∃ x' : AC, Blk w' a 73 x'.cells ∧ x'.handed = (k : Int) + 1 ∧ x'.wrong = e0) ∧ Wi (SA own a) w4 w') := by
          refine (auto_Step_err wr own a f D K k sq x c .nilFunc hAu hO hM hc.1 hc.2 hh hkm hst).mono ?_
          rintro e w' ⟨⟨rfl, x', hA', hh', hw'⟩, hw⟩
          exact ⟨by rw [he0], ⟨x', hA'.blk, hh', by rw [hw', he0]⟩, hW.trans hw⟩
        have hst0 : e0 ≠ 0 := he0 ▸ hst
        have HXX := Lib.hid hall
        have HWV := Lib.hid hwl
        have hNL := HN2.out
        have HCL2 := Lib.hid HCL.out
        clear hAu hM hO hh hS hP hNo hnf hW cB cI cV cR cZ hc hst hpn hpe HA HSA HCL hall hwl he0 hbb hltn HCP HNn HLN HBL
        go_wp2_with fail
        refine HT.out.mono ?_
        rintro e w5 ⟨rfl, ⟨x', hx1, hx2, hx3⟩, hw5⟩
        obtain ⟨g1, g2, g3, _, _⟩ := HCL2.out w5 hw5
        have HDn := Lib.hid (auto_Done w5 a x' hx1)
        have hd0 : (x'.done && x'.wrong == 0) = false := by rw [hx3]; simp [hst0]
        rw [hd0] at HDn
        have HCo : Hid (∃ p0 : Int, (k : Int) = p0 ∧ Calls Try.prog 15 #[.pointer (some ⟨a, 0, none⟩)] w5 fun e w' => e = .returned (.agg #[.int .i64 e0, .int .i64 p0]) ∧ (Below w.heap.size w w' ∧ Blk w' (w.heap.size + 1) 56 #[.int .i64 0, .int .u64 0, .string ⟨#[]⟩, .slice none 0 0] ∧ Blk w' (w.heap.size + 2) 51 #[.int .i64 0, .int .i64 0])) := by
          refine ⟨k, rfl, (auto_Close w5 a x' hx1 (by omega) (by omega)).mono ?_⟩
          rintro e w' ⟨rfl, hb⟩
          refine ⟨?_, g1.trans (hb.mono g1.size), g2.on hb, g3.on hb⟩
          unfold closeV
          rw [if_pos (by rw [hx3]; exact hst0), hx3, hx2]
          unfold vcells
          simp
        clear hx1 hx2 hx3 hw5 g1 g2 g3 HT HCL2 hkm hk0 hNL hlt hk hd0 HN2 HLen hcell
        obtain ⟨p0, hp0, hCo⟩ := HCo.out
        have HCo2 := Lib.hid hCo
        rw [hp0] at HWV
        clear HCo hCo hp0
        have HCo := Lib.hid HCo2.out
        clear HCo2
        have HX0 := Lib.hid HXX.out
        go_wp2_with fail
        refine HDn.out.mono ?_
        rintro e w8 ⟨rfl, rfl⟩
        clear HDn
        go_wp2_with fail
        refine HCo.out.mono ?_
        rintro e w6 ⟨rfl, b6, i6, v6⟩
        obtain ⟨w7, w9, r1, r2, r3, r4, r5, -⟩ := HFIL.out w6 b6 i6 v6 0 0 ⟨#[]⟩ none 0 0 e0 p0
        have H1 := Lib.hid r1
        have H2 := Lib.hid r2
        have H3 := Lib.hid r3
        have H4 := Lib.hid r4
        have H5 := Lib.hid r5
        clear r1 r2 r3 r4 r5 b6 i6 v6 HFIL HCo
        go_wp2_with (first | ((with_reducible refine is_store 56 rfl ?_); (with_reducible refine wpList_store_run rfl rfl H1.out ?_ ?_ ?_); (· rfl); (· rfl)) | ((with_reducible refine is_store 51 rfl ?_); (with_reducible refine wpList_store_run rfl rfl H2.out ?_ ?_ ?_); (· rfl); (· rfl)))
        refine bodyPost_ret (results_bnb rfl _ rfl H3.out Try.underlying56 rfl it_info rfl H4.out Try.underlying51 rfl vd_info) rfl ?_
        refine ⟨.inr ⟨HX0.out, ?_⟩, H5.out⟩
        rw [HWV.out]
        rfl
    · have hkl : k = L.length := by have := HN2.out; omega
      have hwl := pre_wv hP
      rw [hnf, hkl, List.take_length] at hwl
      have hcl := auto_Close wr a x hAu.blk (by omega) (by have := HLen.out; omega)
      rw [am_close hM hnf, hh] at hcl
      have HDn := Lib.hid (auto_Done wr a x hAu.blk)
      rw [am_done hM, hnf] at HDn
      have HXX : Hid (Not0 D K S L L.length) := hkl ▸ hNo
      obtain ⟨p0, hp0⟩ : ∃ p0 : Int, (k : Int) = p0 := ⟨_, rfl⟩
      have HWV : Hid (wv D K S L = (9, p0)) := by
        show _ = _
        rw [hwl, ← hp0, hkl]
        rfl
      obtain ⟨e0, he0⟩ : ∃ e0 : Int, e0 = 9 := ⟨_, rfl⟩
      rw [← he0] at HWV
      have HCo : Hid (Calls Try.prog 15 #[.pointer (some ⟨a, 0, none⟩)] wr fun e w' => e = .returned (.agg #[.int .i64 e0, .int .i64 p0]) ∧ (Below w.heap.size w w' ∧ Blk w' (w.heap.size + 1) 56 #[.int .i64 0, .int .u64 0, .string ⟨#[]⟩, .slice none 0 0] ∧ Blk w' (w.heap.size + 2) 51 #[.int .i64 0, .int .i64 0])) := by
        refine hcl.mono ?_
        rintro e w' ⟨rfl, hb⟩
        exact ⟨by rw [hp0, he0]; rfl, cB.trans (hb.mono cB.size), cI.on hb, cV.on hb⟩
      clear hAu hM hO hh hS hP hNo hnf hW cB cI cV cR cZ hkl hwl hcl HA HSA HCL HCP HNn HLN HBL HN2 HLen he0 hp0
      have HX0 := Lib.hid HXX.out
      go_wp2_with fail
      refine HDn.out.mono ?_
      rintro e w8 ⟨rfl, rfl⟩
      clear HDn
      go_wp2_with fail
      refine HCo.out.mono ?_
      rintro e w6 ⟨rfl, b6, i6, v6⟩
      obtain ⟨w7, w9, r1, r2, r3, r4, r5, -⟩ := HFIL.out w6 b6 i6 v6 0 0 ⟨#[]⟩ none 0 0 e0 p0
      have H1 := Lib.hid r1
      have H2 := Lib.hid r2
      have H3 := Lib.hid r3
      have H4 := Lib.hid r4
      have H5 := Lib.hid r5
      clear r1 r2 r3 r4 r5 b6 i6 v6 HFIL HCo
      go_wp2_with (first | ((with_reducible refine is_store 56 rfl ?_); (with_reducible refine wpList_store_run rfl rfl H1.out ?_ ?_ ?_); (· rfl); (· rfl)) | ((with_reducible refine is_store 51 rfl ?_); (with_reducible refine wpList_store_run rfl rfl H2.out ?_ ?_ ?_); (· rfl); (· rfl)))
      refine bodyPost_ret (results_bnb rfl _ rfl H3.out Try.underlying56 rfl it_info rfl H4.out Try.underlying51 rfl vd_info) rfl ?_
      refine ⟨.inr ⟨HX0.out, ?_⟩, H5.out⟩
      rw [HWV.out]
      rfl
end Go.Proofs.Ytchhbcmkhbfpoaa

/- Layer 14's law: the document's examples. -/
namespace Go.Proofs.Ytchhbcmkhbfpoaa
open Go.RowKit

theorem wv_a : wv 4 9 99 [130, 1] = (9, 2) := by
  simp [wv, svrd, fstep, bstep, aq0, begins, hq0, hnotes, hmid, hbegin, hbeg, herr, hdone, hstep, HQ.more, hshort, leastW, enter, AQ.isEnded, AQ.isFin, settle, Fr.feeds, Fr.full, Fr.waits, Fr.less]
theorem wv_b : wv 4 9 99 [24, 23] = (5, 1) := by
  simp [wv, svrd, fstep, bstep, aq0, begins, hq0, hnotes, hmid, hbegin, hbeg, herr, hdone, hstep, HQ.more, hshort, leastW, hwid, enter, AQ.isEnded, settle, hfollow]
theorem wv_c : wv 4 9 99 [1] = (0, 0) := by
  simp [wv, svrd, fstep, bstep, aq0, begins, hq0, hnotes, hmid, hbegin, hbeg, herr, hdone, hstep, HQ.more, hshort, leastW, enter, AQ.isEnded, AQ.isFin, settle]
theorem whole_a (w : World) (A : Option Addr) (hr : Rd w w.heap.size .u8 A [130, 1]) : Calls Try.prog 21 #[.slice A 2 2, .agg #[.int .i64 4, .int .i64 9, .int .i64 99]] w fun e w' => e = .returned (.agg #[.int .i64 9, .int .i64 2]) ∧ Below w.heap.size w w' := by
  have := auto_Whole w A 2 [130, 1] 4 9 99 hr (by unfold ByteL; decide) (by decide) (by decide) (by decide) (by decide) (by decide) (by decide) (by decide)
  rw [wv_a] at this
  exact this
theorem whole_b (w : World) (A : Option Addr) (hr : Rd w w.heap.size .u8 A [24, 23]) : Calls Try.prog 21 #[.slice A 2 2, .agg #[.int .i64 4, .int .i64 9, .int .i64 99]] w fun e w' => e = .returned (.agg #[.int .i64 5, .int .i64 1]) ∧ Below w.heap.size w w' := by
  have := auto_Whole w A 2 [24, 23] 4 9 99 hr (by unfold ByteL; decide) (by decide) (by decide) (by decide) (by decide) (by decide) (by decide) (by decide)
  rw [wv_b] at this
  exact this
theorem whole_c (w : World) (A : Option Addr) (hr : Rd w w.heap.size .u8 A [1]) : Calls Try.prog 21 #[.slice A 1 1, .agg #[.int .i64 4, .int .i64 9, .int .i64 99]] w fun e w' => e = .returned (.agg #[.int .i64 0, .int .i64 0]) ∧ Below w.heap.size w w' := by
  have := auto_Whole w A 1 [1] 4 9 99 hr (by unfold ByteL; decide) (by decide) (by decide) (by decide) (by decide) (by decide) (by decide) (by decide)
  rw [wv_c] at this
  exact this
theorem rd_lit (v : World) (g : Nat) (hg : g = v.heap.size) (l : List Int) : Rd (v.alloc (.cells (nums .u8 l) 5)) (v.alloc (.cells (nums .u8 l) 5)).heap.size .u8 (some ⟨g, 0, none⟩) l := (Blk.freshAt _ _ _ _ hg : Blk _ g 5 (nums .u8 l)).rd
set_option maxRecDepth 100000 in
theorem auto_awake (w : World) : Calls Try.prog 5 #[] w fun e w' => e = .returned (.bool true) ∧ Below w.heap.size w w' := by
  obtain ⟨w1, hw1, b1, S1⟩ := iblk1 w 24 #[.int .i64 4, .int .i64 9, .int .i64 99]
  have hsz : w1.heap.size = w.heap.size + 1 := by rw [← hw1]; simp
  have HW : Hid (∀ v, Below w1.heap.size w1 v → v.cell? ⟨w.heap.size, 0, none⟩ = some (.int .i64 4) ∧ v.cell? ⟨w.heap.size, 1, none⟩ = some (.int .i64 9) ∧ v.cell? ⟨w.heap.size, 2, none⟩ = some (.int .i64 99)) := fun v hb => lblk (b1.on hb)
  have H1 : Hid (Calls Try.prog 21 #[.slice (some ⟨w.heap.size + 1, 0, none⟩) 2 2, .agg #[.int .i64 4, .int .i64 9, .int .i64 99]] (w1.alloc (.cells #[.int .u8 130, .int .u8 1] 5)) fun e w' => e = .returned (.agg #[.int .i64 9, .int .i64 2]) ∧ Below w1.heap.size w1 w') :=
    (whole_a _ _ (rd_lit w1 (w.heap.size + 1) hsz.symm [130, 1])).mono fun _ _ h => ⟨h.1, (below_alloc w1 _).trans (h.2.mono (by simp))⟩
  have H2 : Hid (∀ v, Below w1.heap.size w1 v → Calls Try.prog 21 #[.slice (some ⟨v.heap.size, 0, none⟩) 2 2, .agg #[.int .i64 4, .int .i64 9, .int .i64 99]] (v.alloc (.cells #[.int .u8 24, .int .u8 23] 5)) fun e w' => e = .returned (.agg #[.int .i64 5, .int .i64 1]) ∧ Below w1.heap.size w1 w') := fun v hb =>
    (whole_b _ _ (rd_lit v v.heap.size rfl [24, 23])).mono fun _ _ h => ⟨h.1, (hb.trans ((below_alloc v _).mono hb.size)).trans (h.2.mono (by have := hb.size; simp; omega))⟩
  have H3 : Hid (∀ v, Below w1.heap.size w1 v → Calls Try.prog 21 #[.slice (some ⟨v.heap.size, 0, none⟩) 1 1, .agg #[.int .i64 4, .int .i64 9, .int .i64 99]] (v.alloc (.cells #[.int .u8 1] 5)) fun e w' => e = .returned (.agg #[.int .i64 0, .int .i64 0]) ∧ Below w1.heap.size w1 w') := fun v hb =>
    (whole_c _ _ (rd_lit v v.heap.size rfl [1])).mono fun _ _ h => ⟨h.1, (hb.trans ((below_alloc v _).mono hb.size)).trans (h.2.mono (by have := hb.size; simp; omega))⟩
  obtain ⟨p0, p1, p2⟩ := lblk b1
  have HS := Lib.hid S1
  clear b1 S1
  go_enter Try.func5, Try.ntmps5
  go_wp2_with fail
  refine H1.out.mono ?_
  rintro e w2 ⟨rfl, b2⟩
  obtain ⟨q0, q1, q2⟩ := HW.out (w2.alloc (.cells #[.int .u8 24, .int .u8 23] 5)) (b2.trans ((below_alloc w2 _).mono b2.size))
  have HC2 := Lib.hid (H2.out w2 b2)
  clear b2 H1 H2 p0 p1 p2
  go_wp2_with fail
  refine HC2.out.mono ?_
  rintro e w3 ⟨rfl, b3⟩
  obtain ⟨r0, r1, r2⟩ := HW.out (w3.alloc (.cells #[.int .u8 1] 5)) (b3.trans ((below_alloc w3 _).mono b3.size))
  have HC3 := Lib.hid (H3.out w3 b3)
  clear b3 HC2 H3 q0 q1 q2
  go_wp2_with fail
  refine HC3.out.mono ?_
  rintro e w4 ⟨rfl, b4⟩
  have HF := Lib.hid (HS.out.trans (b4.mono HS.out.size))
  clear b4 HC3
  go_wp2_with fail
  go_ret
  exact ⟨rfl, HF.out⟩
end Go.Proofs.Ytchhbcmkhbfpoaa

/- Package plain: Decode of an item; the document's example. -/
namespace Go.Proofs.Ytchhbcmkhbfpoaa
open Go.RowKit

/-- Two structs in memory. -/
theorem results_bb {P : Program} {fn : Func} {p q : Tmp} {ty tz : TypeId} (h : fn.results = #[.cell p ty, .cell q tz]) (tmps : Array Value) {w : World} {g g' : Nat} {t t' : TypeId} {cs cs' : Array Value} {d d' : TypeDesc} (hp : tmps.getD p undef = .pointer (some ⟨g, 0, none⟩))
    (hg : Blk w g t cs) (hu : P.underlying ty = some d) (hd : d.isRow = true) (hi : (P.info? ty).map (·.size) = some cs.size) (hp' : tmps.getD q undef = .pointer (some ⟨g', 0, none⟩))
    (hg' : Blk w g' t' cs') (hu' : P.underlying tz = some d') (hd' : d'.isRow = true) (hi' : (P.info? tz).map (·.size) = some cs'.size) :
    (results fn tmps).run P w = .ok (.tuple #[.agg cs, .agg cs']) w := by
  have h1 : tmps[p]?.getD undef = .pointer (some ⟨g, 0, none⟩) := by simpa using hp
  have h2 : tmps[q]?.getD undef = .pointer (some ⟨g', 0, none⟩) := by simpa using hp'
  have hl := run_loadVar_row w g t ty cs (0, 0) d hg hu (by cases d <;> simp_all [TypeDesc.isRow]) hi
  have hl' := run_loadVar_row w g' t' tz cs' (0, 0) d' hg' hu' (by cases d' <;> simp_all [TypeDesc.isRow]) hi'
  simp [results, h, h1, h2, asAddr, hl, hl']
set_option maxRecDepth 4000 in
set_option maxHeartbeats 1000000 in
/-- Decode of bytes that are an item. -/
theorem plain_Decode (w : World) (A : Option Addr) (cap : Nat) (L : List Int) (D K : Nat) (S : Int) (hr : Rd w w.heap.size .u8 A L) (hb : ByteL L) (hl : L.length ≤ 300) (hcp : L.length ≤ cap) (h1 : 1 ≤ D) (h2 : D ≤ 64) (k1 : 1 ≤ K) (k2 : K ≤ 1024) (s1 : 1 ≤ S) (s2 : S ≤ 2305843009213693951) (hv : wv D K S L = (0, 0)) (x : It) (hx : prs L (L.length + 1) 0 = some (x, L.length)) :
    Calls Try.prog 29 #[.slice A L.length cap, vL D K S] w fun e w' => ∃ Ax cx, e = .returned (.tuple #[vI x Ax cx, .agg #[.int .i64 0, .int .i64 0]]) ∧ AtS w' (fun b => w.heap.size ≤ b) x Ax cx ∧ Below w.heap.size w w' := by
  obtain ⟨w1, hw1, b1, S1⟩ := iblk1 w 24 #[.int .i64 D, .int .i64 K, .int .i64 S]
  have hsz1 : w1.heap.size = w.heap.size + 1 := by rw [← hw1]; simp
  obtain ⟨w2, hw2, b2, S2⟩ := iblk1 w1 56 #[.int .i64 0, .int .u64 0, .string ⟨#[]⟩, .slice none 0 0]
  have hsz2 : w2.heap.size = w.heap.size + 2 := by rw [← hw2]; simp [hsz1]
  obtain ⟨w3, hw3, b3, S3⟩ := iblk1 w2 51 #[.int .i64 0, .int .i64 0]
  have hsz3 : w3.heap.size = w.heap.size + 3 := by rw [← hw3]; simp [hsz2]
  rw [hsz1] at b2
  rw [hsz2] at b3
  have b1' := (b1.on S2).on S3
  have b2' := b2.on S3
  obtain ⟨p0, p1, p2⟩ := lblk b1'
  have S13 : Below w.heap.size w w3 := (S1.trans (S2.mono S1.size)).trans (S3.mono (by omega))
  have HW := Lib.hid (auto_Whole w3 A cap L D K S ((hr.below S13).more (by omega)) hb (by omega) h1 h2 k1 k2 s1 s2)
  rw [hv] at HW
  have HRD : Hid (∀ v, Below w.heap.size w v → Calls Try.prog 30 #[.slice A L.length cap] v fun r w' => ∃ Ax cx A' l' c', r = .returned (.tuple #[.agg #[.int .i64 x.k, .int .u64 x.n, .string x.s, .slice Ax x.l.length cx], .slice A' l' c']) ∧ AtS w' (fun b => v.heap.size ≤ b) x Ax cx ∧ Below v.heap.size v w') := fun v hbv => by
    have hrd := plain_read L hb hl (L.length + 1) 0 x L.length v A cap w.heap.size hbv.size hx (by rw [List.drop_zero]; exact hr.below hbv) (by rw [Nat.sub_zero]; exact hcp)
    rw [Nat.sub_zero] at hrd
    refine hrd.mono ?_
    rintro r w' ⟨Ax, cx, A', c', rfl, q1, q2, q3, q4⟩
    exact ⟨Ax, cx, A', _, c', rfl, q1, q4⟩
  have HZ := vd_zero
  have HZI := item_zero
  have HFIL : Hid (∀ v Ax cx B1 B2, Below w3.heap.size w3 v → w3.heap.size ≤ B1 → B2 ≤ v.heap.size → AtS v (fun b => B1 ≤ b ∧ b < B2) x Ax cx → ∃ u1 u2, (Instr.storeAt 56 (.pointer (some ⟨w.heap.size + 1, 0, none⟩)) (.agg #[.int .i64 x.k, .int .u64 x.n, .string x.s, .slice Ax x.l.length cx])).run Try.prog v = .ok () u1 ∧
      (Instr.storeAt 51 (.pointer (some ⟨w.heap.size + 2, 0, none⟩)) (.agg #[.int .i64 0, .int .i64 0])).run Try.prog u1 = .ok () u2 ∧
      Blk u2 (w.heap.size + 1) 56 #[.int .i64 x.k, .int .u64 x.n, .string x.s, .slice Ax x.l.length cx] ∧ Blk u2 (w.heap.size + 2) 51 #[.int .i64 0, .int .i64 0] ∧ AtS u2 (fun b => w.heap.size ≤ b) x Ax cx ∧ Below w.heap.size w u2) := fun v Ax cx B1 B2 hbv hB1 hB2 hat => by
    obtain ⟨u1, u2, r1, r2, r3, r4, r5, r6⟩ := pfx_fill (b2'.on hbv) (b3.on hbv) (by omega) (S13.trans (hbv.mono (by omega))) (by omega) (by omega) x.k x.n x.s Ax x.l.length cx 0 0
    exact ⟨u1, u2, r1, r2, r3, r4, ⟨hat.le, hat.nil, AtL.keep (w := v) (fun b hb _ => r6 b (by omega) (by omega) (by omega)) (fun b hb => by omega) _ _ hat.at_⟩, r5⟩
  have HS := Lib.hid S13
  have HS3 : Hid (Unit → w.heap.size + 3 = w3.heap.size) := fun _ => hsz3.symm
  clear hr hb hl hcp h1 h2 k1 k2 s1 s2 hv hx S1 S2 S3 S13 b1 b2 b3 b1' b2' hsz3
  unfold vL at ⊢ HW
  unfold vI
  unfold vcells at HZ HW
  dsimp only at HZ HW
  go_enter Try.func29, Try.ntmps29
  go_wp2_with fail
  refine HW.out.mono ?_
  rintro e w4 ⟨rfl, hb4⟩
  have S5 := below_alloc w4 (.cells #[.int .i64 0, .int .i64 0] 51)
  have hb35 : Below w3.heap.size w3 (w4.alloc (.cells #[.int .i64 0, .int .i64 0] 51)) := hb4.trans (S5.mono hb4.size)
  have HR := Lib.hid (HRD.out _ (HS.out.trans (hb35.mono HS.out.size)))
  have HB35 := Lib.hid hb35
  clear S5 hb35 hb4 HW HRD p0 p1 p2
  go_wp2_with fail
  refine HR.out.mono ?_
  rintro e w6 ⟨Ax, cx, A', l', c', rfl, hat, hb6⟩
  generalize w4.alloc (.cells #[.int .i64 0, .int .i64 0] 51) = w5 at *
  have b7 : Blk (w6.alloc (.cells #[.int .i64 x.k, .int .u64 x.n, .string x.s, .slice Ax x.l.length cx] 56)) w6.heap.size 56 #[.int .i64 x.k, .int .u64 x.n, .string x.s, .slice Ax x.l.length cx] := Blk.fresh _ _ _
  have S7 := below_alloc w6 (.cells #[.int .i64 x.k, .int .u64 x.n, .string x.s, .slice Ax x.l.length cx] 56)
  obtain ⟨w7, hw7⟩ : ∃ w7, w6.alloc (.cells #[.int .i64 x.k, .int .u64 x.n, .string x.s, .slice Ax x.l.length cx] 56) = w7 := ⟨_, rfl⟩
  rw [hw7] at b7 S7
  have hat7 : AtS w7 (fun b => w5.heap.size ≤ b ∧ b < w6.heap.size) x Ax cx := ⟨hat.le, hat.nil, AtL.keep (fun b hb _ => S7.block b hb.2) (fun _ h => h) _ _ hat.at_.bound⟩
  obtain ⟨u1, u2, r1, r2, r3, r4, r5, r6⟩ := HFIL.out w7 Ax cx w5.heap.size w6.heap.size (HB35.out.trans ((hb6.trans (S7.mono hb6.size)).mono HB35.out.size)) HB35.out.size S7.size hat7
  have c0 := b7.cell 0
  have c1 := b7.cell 1
  have c2 := b7.cell 2
  have c3 := b7.cell 3
  simp only [List.getElem?_toArray, List.getElem?_cons_zero, List.getElem?_cons_succ] at c0 c1 c2 c3
  have H1 := Lib.hid r1
  have H2 := Lib.hid r2
  have H3 := Lib.hid r3
  have H4 := Lib.hid r4
  have H5 := Lib.hid r5
  have H6 := Lib.hid r6
  clear r1 r2 r3 r4 r5 r6 hat7 hat b7 S7 hb6 HFIL HR HB35
  go_wp2_with (first | ((with_reducible refine is_store 56 rfl ?_); (with_reducible refine wpList_store_run rfl rfl H1.out ?_ ?_ ?_); (· rfl); (· rfl)) | ((with_reducible refine is_store 51 rfl ?_); (with_reducible refine wpList_store_run rfl rfl H2.out ?_ ?_ ?_); (· rfl); (· rfl)))
  refine bodyPost_ret (results_bb rfl _ rfl H3.out Try.underlying56 rfl it_info rfl H4.out Try.underlying51 rfl vd_info) rfl ?_
  exact ⟨Ax, cx, rfl, H5.out, H6.out⟩
theorem wv_ex : wv 2 1 9 [130, 1, 2] = (0, 0) := by
  simp [wv, svrd, fstep, bstep, aq0, begins, hq0, hnotes, hmid, hbegin, hbeg, herr, hdone, hstep, HQ.more, hshort, leastW, enter, AQ.isEnded, AQ.isFin, settle, Fr.feeds, Fr.full, Fr.waits, Fr.less]
theorem prs_ex : prs [130, 1, 2] 4 0 = some (.mk 4 0 ⟨#[]⟩ [.mk 0 1 ⟨#[]⟩ [], .mk 0 2 ⟨#[]⟩ []], 3) := by
  simp [prs, prsBody, prsMany, manyOf, hread]
theorem decode_ex (w : World) : Calls Try.prog 29 #[.slice (some ⟨w.heap.size, 0, none⟩) 3 3, .agg #[.int .i64 2, .int .i64 1, .int .i64 9]] (w.alloc (.cells #[.int .u8 130, .int .u8 1, .int .u8 2] 5)) fun e w' => ∃ b o cx, e = .returned (.tuple #[.agg #[.int .i64 4, .int .u64 0, .string ⟨#[]⟩, .slice (some ⟨b, o, none⟩) 2 cx], .agg #[.int .i64 0, .int .i64 0]]) ∧ b < w'.heap.size ∧ w'.cell? ⟨b, o + 5, none⟩ = some (.int .u64 2) ∧ Below w.heap.size w w' := by
  have := plain_Decode (w.alloc (.cells #[.int .u8 130, .int .u8 1, .int .u8 2] 5)) (some ⟨w.heap.size, 0, none⟩) 3 [130, 1, 2] 2 1 9 (rd_lit w w.heap.size rfl [130, 1, 2]) (by unfold ByteL; decide) (by decide) (by decide) (by decide) (by decide) (by decide) (by decide) (by decide) (by decide) wv_ex _ prs_ex
  refine this.mono ?_
  rintro e w' ⟨Ax, cx, rfl, hat, hb⟩
  obtain ⟨b, o, X, A', cap', rfl, _, hlt, hX, _, _, c1, _⟩ := hat.item (i := 1) (by decide)
  have hX : X = .mk 0 2 ⟨#[]⟩ [] := by simpa [It.l] using hX.symm
  subst hX
  exact ⟨b, o, cx, rfl, hlt, c1, (below_alloc w _).trans (hb.mono (by simp))⟩
set_option maxRecDepth 4000 in
theorem plain_awake (w : World) : Calls Try.prog 16 #[] w fun e w' => e = .returned (.bool true) ∧ Below w.heap.size w w' := by
  have HD := Lib.hid (decode_ex w)
  have HZ := vd_zero
  unfold vcells at HZ
  dsimp only at HZ
  go_enter Try.func16, Try.ntmps16
  go_wp2_with fail
  refine HD.out.mono ?_
  rintro e w2 ⟨b, o, cx, rfl, hlt, hc, hb2⟩
  have S3 := (below_alloc w2 (.cells #[.int .i64 4, .int .u64 0, .string ⟨#[]⟩, .slice (some ⟨b, o, none⟩) 2 cx] 56)).alloc (by simp) (.cells #[.int .i64 0, .int .i64 0] 51)
  have hc3 := (S3.cell (p := ⟨b, o + 5, none⟩) hlt).trans hc
  have HB := Lib.hid (hb2.trans (S3.mono hb2.size))
  clear S3 hb2 HD hc hlt
  go_wp2_with fail
  go_ret
  exact ⟨rfl, HB.out⟩
end Go.Proofs.Ytchhbcmkhbfpoaa

/- Limits among the arguments. -/
namespace Go.Proofs.Ytchhbcmkhbfpoaa
open Go.RowKit Go.Sort Go.ChangeShapes Go.WideShapes Go.ChangeAt

section
variable {H : Type} {enc : TypeId × Value → H} {W : World}
set_option maxRecDepth 100000 in
/-- Limits among the arguments. -/
theorem open_limits {b0 : Nat} {v : Value} {d : DataW H} {ps : List MemPlace} (hval : Value.okWide Try.prog W .any b0 24 v) (hd : DataW.Trod enc Try.prog W 0 (fun _ => true) true 24 v d ps) :
    ∃ a b c, v = vL a b c := by
  obtain ⟨cs, rfl, _⟩ := okWide_struct Try.underlying24 hval
  obtain ⟨fuel, h⟩ := hd
  obtain ⟨xs, m, rfl, _, hl, hlen, hf⟩ := DataW.trod_struct Try.underlying24 h
  have hC : Try.prog.cellsOf 24 = 3 := by kernel_rfl
  rw [hC] at hl
  obtain ⟨c0, c1, c2, hc⟩ : ∃ c0 c1 c2, (Value.agg cs).cells.toList = [c0, c1, c2] := by
    match (Value.agg cs).cells.toList, hl with
    | [c0, c1, c2], _ => exact ⟨c0, c1, c2, rfl⟩
  obtain ⟨y0, y1, y2, rfl⟩ : ∃ y0 y1 y2, xs = [y0, y1, y2] := by
    match xs, hlen with
    | [y0, y1, y2], _ => exact ⟨y0, y1, y2, rfl⟩
  have g0 := hf 0 _ rfl
  have g1 := hf 1 _ rfl
  have g2 := hf 2 _ rfl
  have k0 : Try.prog.cellsOf 3 = 1 := by kernel_rfl
  rw [hc] at g0 g1 g2
  simp [k0] at g0 g1 g2
  obtain ⟨a, e0, _, _⟩ := DataW.trod_int Try.underlying3 g0
  obtain ⟨b, e1, _, _⟩ := DataW.trod_int Try.underlying3 g1
  obtain ⟨c, e2, _, _⟩ := DataW.trod_int Try.underlying3 g2
  injection e0 with e0
  injection e1 with e1
  injection e2 with e2
  subst e0 e1 e2
  refine ⟨a, b, c, ?_⟩
  unfold vL
  congr 1
  apply Array.ext'
  simpa [Value.cells] using hc
end
end Go.Proofs.Ytchhbcmkhbfpoaa
