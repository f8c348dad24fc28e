/- find. -/
import Derived.Test.YtlalnmefppbebaaSynK
namespace Go.Proofs.Ytlalnmefppbebaa
open Go.RowKit Go.Maps Go.Proofs.TreeMath
theorem one_text (w : World) (t : ByteArray) : StrsAt (w.alloc (.cells #[.string t] 9)) (.slice (some ⟨w.heap.size, 0, none⟩) 1 1) [t] := by
  refine ⟨rfl, _, _, rfl, Nat.le_refl _, by unfold maxLen; omega, fun _ => ⟨_, _, rfl, by simp, ?_⟩⟩
  intro j u hj
  have h := cell_one_new w (.string t) 9 j u hj
  rwa [Go.WideShapes.add_plain] at h
set_option maxRecDepth 100000 in
set_option maxHeartbeats 8000000 in
theorem find_good (W : World) (nb tb tm bm : Nat) (ns : List Nd) (bd off cap : Nat) (n : Nd) (k : F) (hN : ns.length ≤ 4000) (hb : bd < W.heap.size) (hc : Hid (CellsIn W bd off (nodeCells ns))) (hat : NodesAt W (.slice (some ⟨bd, off, none⟩) ns.length cap) ns) (hW : Hid (wholeB (kk ns) = true)) (ht : Hid (Tx ns))
    (hk : Hid (AllFG W (.slice (some ⟨bd, off, none⟩) ns.length cap) ns nb tb tm bm k)) (hk1 : Hid (n.kids = k.cnt)) (hk2 : Hid k.ok) (hk3 : Hid (n.kind = 3 → k.cnt = 0)) : FGood W (.slice (some ⟨bd, off, none⟩) ns.length cap) ns nb tb tm bm n k := by
  intro pre post B nB na v acc w hns hfs hbel hnB hna
  have hlen : ns.length = pre.length + (1 + k.sz + post.length) := by rw [hns]; simp [F.flat_length]; omega
  have hi : pre.length < ns.length := by omega
  have hnode : ns.getD pre.length default = n := by rw [hns]; simp [List.getD_eq_getElem?_getD]
  have hbw : bd < w.heap.size := Nat.lt_of_lt_of_le hb hbel.size
  obtain ⟨c0, c1, c2, c3⟩ := (hc.out.kept (hbel.block bd hb)).node pre.length hi
  rw [hnode] at c0 c1 c2 c3
  have htx : n.text.size ≤ 300 := by rw [← hnode]; exact ht.out _ (getD_mem' hi)
  have HNS := Lib.hid hns
  have HLEN := Lib.hid hlen
  have HFS := Lib.hid hfs
  have HBEL := Lib.hid hbel
  obtain ⟨R, hR⟩ : ∃ R, R = addAll acc ((freeT n k).filter fun s => !B s) := ⟨_, rfl⟩
  obtain ⟨END, hE⟩ : ∃ END, END = pre.length + 1 + k.sz := ⟨_, rfl⟩
  rw [← hR, ← hE]
  have HR := Lib.hid hR
  have HE := Lib.hid hE
  obtain ⟨I, hI⟩ : ∃ I, I = pre.length := ⟨_, rfl⟩
  obtain ⟨M, hM⟩ : ∃ M, M = ns.length := ⟨_, rfl⟩
  rw [← hI, ← hM]
  rw [← hI] at c0 c1 c2 c3 hi hna hnB
  rw [← hM] at hi hN hnB hat hk
  have HAT := Lib.hid hat
  have HI := Lib.hid hI
  have HM := Lib.hid hM
  have HNB := Lib.hid hnB
  have HNA := Lib.hid hna
  clear hI hM hE hR hns hlen hfs hbel hat hnode hnB hna
  obtain ⟨k0, t0, m0, d0⟩ := n
  simp only at c0 c1 c2 c3 hk1 hk3 htx HR
  have hk1' := hk1.out
  subst hk1'
  have hb2 : Below w.heap.size w ((w.alloc (fdObj (.slice (some ⟨bd, off, none⟩) M cap) nb tb bm)).alloc (nodeObj k0 t0 m0 (k.cnt : Int))) := ((Below.refl _ _).alloc (Nat.le_refl _) _).alloc (by simp) _
  obtain ⟨x1, x2⟩ := two_boxes w k0 t0 m0 (k.cnt : Int) (.slice (some ⟨bd, off, none⟩) M cap) nb tb bm
  obtain ⟨w2, hw2⟩ : ∃ w2, w2 = (w.alloc (fdObj (.slice (some ⟨bd, off, none⟩) M cap) nb tb bm)).alloc (nodeObj k0 t0 m0 (k.cnt : Int)) := ⟨_, rfl⟩
  rw [← hw2] at hb2 x1 x2
  unfold fdObj nodeObj at hw2
  have F2 := Lib.hid (HFS.out.below hb2)
  have T2 : Hid (Tr W.heap.size nb tm bm v v w w2) := Lib.hid (Tr.of_below hb2 HFS.out.lt)
  have X1 := Lib.hid x1
  have X2 := Lib.hid x2
  have HW2 := Lib.hid hw2
  have HB2 := Lib.hid hb2
  obtain ⟨q0, q1, q2⟩ := fd_cells x1
  obtain ⟨p0, p1, p2, p3⟩ := box_of x2
  have Q := Lib.hid (And.intro q0 (And.intro q1 (And.intro q2 (And.intro p0 (And.intro p1 p3)))))
  clear hb2 x1 x2 hw2 q0 q1 q2 p0 p1 p2 p3
  unfold fdV
  by_cases h3 : k0 = 3
  · subst h3
    have hz := hk3.out rfl
    have hkn : k = .nil := by
      cases k with
      | nil => rfl
      | cons _ _ _ => simp [F.cnt] at hz
    subst hkn
    have MT := Lib.hid (meet_any W.heap.size nb tb tm bm B nB na v acc t0 (some ⟨bd, off, none⟩) M cap w2 F2.out htx (by have := HNA.out; omega))
    unfold fdV at MT
    clear hz hk hk1 hk2 hk3
    simp only [F.cnt] at *
    go_enter Try.func39, Try.ntmps39
    go_wp2_with fail
    have hw2 := HW2.out
    rw [show ((0 : Nat) : Int) = 0 from rfl] at hw2
    rw [← hw2]
    clear hw2
    refine MT.out.mono ?_
    rintro e w3 ⟨rfl, v1, a1, a2⟩
    have A1 := Lib.hid a1
    have A2 := Lib.hid a2
    obtain ⟨p0, p1, p2, p3⟩ := box_of (F2.out.type_kept a2 X2.out (by decide) (by decide))
    clear a1 a2
    go_wp2_with fail
    refine wp_loop_rounds 1 ?_
    rw [rounds_succ]
    go_wp2
    go_ret
    refine ⟨by rw [HE.out]; simp [F.sz, HI.out], v1, ?_, T2.out.trans A2.out⟩
    have e : R = if B t0 then acc else addOne acc t0 := by
      rw [HR.out]
      unfold freeT
      rw [if_pos rfl]
      cases hB : B t0 <;> simp [hB, addAll, addOne, freeK]
    rw [e]
    have he : END = I + 1 := by rw [HE.out, HI.out]; rfl
    refine A1.out.up ?_ (by have := HNA.out; omega)
    have := HNB.out
    rw [he]
    exact this
  · have g3 : (k0 == 3) = false := by simpa using h3
    have RE : Hid (addAll acc ((freeK k k0 t0 0 []).filter fun s => !B s) = R) := Lib.hid (by rw [HR.out]; unfold freeT; rw [if_neg h3]; rfl)
    have START := Lib.hid (show Lr W w (.slice (some ⟨bd, off, none⟩) M cap) ns post nb tb tm bm B k0 t0 m0 (k.cnt : Int) k.cnt END R v 0 (I + 1) (.slice none 0 0) w2 from by
      refine ⟨k, pre ++ [⟨k0, t0, m0, (k.cnt : Int)⟩], [], v, acc, by omega, by rw [HE.out, HI.out], by rw [HI.out]; simp, by rw [HNS.out]; simp, hk.out, hk2.out, StrsAt.nil _, .inl rfl, Nat.zero_le _, by intro s hs; simp at hs, ?_, RE.out, X1.out, X2.out, T2.out⟩
      refine F2.out.up ?_ (by have := HNA.out; omega)
      have := HNB.out
      rw [HM.out] at this
      exact this)
    have HEND : Hid (END ≤ M) := Lib.hid (by rw [HE.out, HM.out]; have := HLEN.out; omega)
    have hcm : k.cnt ≤ 4000 := by have := F.cnt_le k; have := HLEN.out; rw [← HM.out] at this; omega
    have HRK := hk2
    have HPRE := HBEL
    clear h3 hk hk1 hk2 hk3 RE
    obtain ⟨q0, q1, q2, p0, p1, p3⟩ := Q.out
    go_enter Try.func39, Try.ntmps39
    go_wp2_with fail
    rw [← HW2.out]
    clear c0 c1 c2 c3 q0 q1 q2 p0 p1 p3
    go_loopw [6, 7, 26] (fun s6 s7 s26 wr => ∃ (i q : Nat) (nmv : Value), nmv = s6 ∧ s26 = .int .i64 (i : Int) ∧ s7 = .int .i64 (q : Int) ∧ Lr W w (.slice (some ⟨bd, off, none⟩) M cap) ns post nb tb tm bm B k0 t0 m0 (k.cnt : Int) k.cnt END R v i q nmv wr) (fun _ _ s26 _ => k.cnt - (intOf s26).toNat)
    case atStart => exact ⟨0, I + 1, _, rfl, rfl, by go_num, START.out⟩
    case round =>
      obtain ⟨wo, hwo⟩ : ∃ wo : World, wo = wr := ⟨_, rfl⟩
      subst hwo
      obtain ⟨i, q, nmv, rfl, rfl, rfl, hlr⟩ := hrel
      obtain ⟨g, pre', names, v', acc', hic, hqs, hq, hns', hall, hgok, hnm, hnne, hnl, hnt, hfs, hres, hbx1, hbx2, htr⟩ := hlr
      rw [← HM.out] at hnl hfs
      have HF := Lib.hid hfs
      have HX1 := Lib.hid hbx1
      have HX2 := Lib.hid hbx2
      have HT := Lib.hid htr
      have HNM := Lib.hid (And.intro hnm hnne)
      have HNL := Lib.hid (And.intro hnl hnt)
      have RES := Lib.hid hres
      clear hfs hbx1 hbx2 htr hnm hnne hnl hnt hres START
      cases g with
      | nil =>
        simp only [F.cnt, F.sz, Nat.add_zero] at hic hqs
        subst hic
        subst hqs
        have e : acc' = R := RES.out
        subst e
        clear hall hgok hns' hq
        go_wp2
        go_ret
        exact ⟨rfl, v', by rw [HM.out] at *; exact HF.out, HT.out⟩
      | cons m kk r =>
        simp only [F.cnt, F.sz] at hic hqs
        obtain ⟨hg1, hg2, hg3⟩ := hgok
        obtain ⟨ha1, ha2⟩ := hall
        have hik : i < k.cnt := by omega
        have QN : Hid (q ≤ 4000 ∧ q + (1 + kk.sz + r.sz) = END) := Lib.hid (by have := HEND.out; omega)
        have HREST := Lib.hid (And.intro hic (And.intro hq (And.intro hns' (And.intro hg1 (And.intro hg2 (And.intro hg3 (And.intro ha1 ha2)))))))
        have hltz : ((i : Int) < (k.cnt : Int)) := by omega
        have hq4 : q ≤ 4000 := QN.out.1
        clear hic hqs hq hns' hg1 hg2 hg3 ha1 ha2
        by_cases hpat : k0 = 10 ∧ i % 2 = 1
        · have B67 := Lib.hid (fun W2 => below_any 0 k0 i W2)
          rw [show belowP 0 k0 i = 1 by simp [belowP, hpat]] at B67
          have VAR := Lib.hid (show Calls Try.prog 40 #[.slice (some ⟨bd, off, none⟩) M cap, .int .i64 (q : Int)] wo (SOwn (varsF (.cons m kk .nil)) wo) from by
            obtain ⟨r1, r2, r3, r4, r5, r6, r7, r8⟩ := HREST.out
            have hqn : q < ns.length := by rw [r3, r2]; simp [F.flat]
            have := variables_own (.slice (some ⟨bd, off, none⟩) M cap) ns q wo (HAT.out.below (HBEL.out.trans HT.out.below)) (by rw [← HM.out]; omega) hqn hW.out
            have e := sub_flat m kk r4 r5 pre' (r.flat ++ post) ns (by rw [r3]; simp [F.flat])
            rw [← r2] at e
            rw [e, ← one_flat, vars_flat] at this
            exact this)
          have FIN := Lib.hid (fun (W2 : World) (h : Below W.heap.size W W2) => show Calls Try.prog 43 #[.slice (some ⟨bd, off, none⟩) M cap, .int .i64 (q : Int)] W2 (fun e w' => e = .returned (.int .i64 ((q + (1 + kk.sz) : Nat) : Int)) ∧ W2 = w') from by
            obtain ⟨r1, r2, r3, r4, r5, r6, r7, r8⟩ := HREST.out
            have := end_any (.slice (some ⟨bd, off, none⟩) M cap) ns (q : Int) W2 (HAT.out.below h) (by rw [← HM.out]; omega)
            have e := fin_flat (.cons m kk .nil) ⟨r4, r5, trivial⟩ pre' (r.flat ++ post)
            rw [show pre' ++ ((F.cons m kk .nil).flat ++ (r.flat ++ post)) = ns by rw [r3]; simp [F.flat], ← r2] at e
            rw [endI_nat, show fin (Ytlalnmefppbebaa.kk ns) q 1 = ((q + (F.cons m kk .nil).sz : Nat) : Int) from e] at this
            simpa [F.sz] using this)
          have VL := Lib.hid (show (varsF (.cons m kk .nil)).length ≤ M ∧ ∀ s ∈ varsF (.cons m kk .nil), s.size ≤ 300 from by
            obtain ⟨r1, r2, r3, r4, r5, r6, r7, r8⟩ := HREST.out
            rw [← vars_flat, one_flat]
            have h1 : Tx (m :: kk.flat) := fun x hx => ht.out x (by rw [r3]; simp only [F.flat, List.mem_append, List.mem_cons] at hx ⊢; rcases hx with hx | hx <;> simp [hx])
            refine ⟨Nat.le_trans (varsL_len _) ?_, varsL_tx h1⟩
            rw [HM.out, r3]
            simp [F.flat]
            omega)
          have RES' := RES.out
          rw [freeK_pat _ _ _ _ _ _ _ hpat] at RES'
          have RES2 := Lib.hid RES'
          clear RES RES' hpat
          obtain ⟨j0, j1, j2⟩ := fd_cells HX1.out
          obtain ⟨z0, z1, z2, z3⟩ := box_of HX2.out
          obtain ⟨nmp, nmc, rfl⟩ := strs_form HNM.out.1
          go_wp2_with (first
            | (go_at_call 67; refine (B67.out _).mono ?_; rintro e w5 ⟨rfl, rfl⟩)
            | fail)
          refine VAR.out.mono ?_
          rintro e w5 ⟨nv, rfl, row5, b5⟩
          have ROW5 := Lib.hid row5
          have B5 := Lib.hid b5
          have Y1 := Lib.hid ((b5.block _ (lt_of_heap HX1.out)).trans HX1.out)
          have Y2 := Lib.hid ((b5.block _ (lt_of_heap HX2.out)).trans HX2.out)
          obtain ⟨np, nc, hnv⟩ := strs_form row5.at
          subst hnv
          obtain ⟨y0, y1, y2⟩ := fd_cells Y1.out
          clear row5 b5 j0 j1 j2 z0 z1 z2 z3
          go_wp2_with fail
          refine (FIN.out _ (HBEL.out.trans (HT.out.below.trans ((Tr.of_below (nb := nb) (tm := tm) (bm := bm) (v := v) B5.out HF.out.lt).below)))).mono ?_
          rintro e w6 ⟨rfl, rfl⟩
          go_wp2_with fail
          obtain ⟨r1, r2, r3, r4, r5, r6, r7, r8⟩ := HREST.out
          have t5 : Tr W.heap.size nb tm bm v' v' wo w5 := Tr.of_below B5.out HF.out.lt
          refine ⟨⟨i + 1, q + (1 + kk.sz), _, rfl, by go_num, by first | rfl | go_num | simp, r, pre' ++ (m :: kk.flat), varsF (.cons m kk .nil), v', acc', by omega, by have := QN.out.2; omega, by rw [r2]; simp [F.flat_length]; omega, by rw [r3]; simp [F.flat], r8, r6, ROW5.out.at, ?_, by rw [← HM.out]; exact VL.out.1, VL.out.2, ?_, RES2.out, Y1.out, Y2.out, HT.out.trans t5⟩, by simp [intOf]; omega⟩
          · by_cases h0 : varsF (.cons m kk .nil) = []
            · exact .inl h0
            · right
              intro e
              cases hf : (Value.slice np (varsF (.cons m kk .nil)).length nc).ownBlock with
              | none =>
                rcases ROW5.out.2 with ⟨_, hl⟩ | ⟨g', cap', cur, hv, _, hg', _⟩
                · exact h0 (List.eq_nil_of_length_eq_zero hl)
                · rw [hv] at hf; simp [Value.ownBlock] at hf
              | some gg =>
                rw [hf] at e
                have a1 := (World.ownsRow.there ROW5.out hf).1
                have a2 := (World.ownsRow.there HF.out.row e.symm).2
                omega
          · rw [← HM.out]
            exact (HF.out.below B5.out).up (Nat.mul_le_mul_left _ (by omega)) (by omega)
        · have B67 := Lib.hid (fun W2 => below_any 0 k0 i W2)
          rw [show belowP 0 k0 i = 0 by simp [belowP, hpat]] at B67
          have B68 := Lib.hid (fun W2 => binds_any k0 i W2)
          have RES' := RES.out
          rw [freeK_exp _ _ _ _ _ _ _ hpat] at RES'
          clear RES
          have RES := RES'
          clear RES' hpat
          by_cases hbi : bindsB k0 i = true
          · have hbi' : bindsB k0 i = true := hbi
            rw [hbi'] at B68 RES
            simp only [if_true] at RES
            have NEW := Lib.hid (one_text wo t0)
            have FB := Lib.hid (HF.out.below (show Below wo.heap.size wo (wo.alloc (.cells #[.string t0] 9)) from (Below.refl _ _).alloc (Nat.le_refl _) _))
            have TB : Hid (Tr W.heap.size nb tm bm v' v' wo (wo.alloc (.cells #[.string t0] 9))) := Lib.hid (Tr.of_below ((Below.refl _ _).alloc (Nat.le_refl _) _) HF.out.lt)
            obtain ⟨wB, hwB⟩ : ∃ wB, wB = wo.alloc (.cells #[.string t0] 9) := ⟨_, rfl⟩
            rw [← hwB] at NEW FB TB
            have NM : Hid (StrsAt wB (.slice (some ⟨wo.heap.size, 0, none⟩) 1 1) [t0] ∧ (([t0] : List ByteArray) = [] ∨ (Value.slice (some ⟨wo.heap.size, 0, none⟩) 1 1).ownBlock ≠ v'.ownBlock)) := Lib.hid ⟨NEW.out, .inr (fun e => absurd (World.ownsRow.there HF.out.row (g := wo.heap.size) e.symm).2 (Nat.lt_irrefl _))⟩
            have NL : Hid (([t0] : List ByteArray).length ≤ M ∧ ∀ s ∈ ([t0] : List ByteArray), s.size ≤ 300) := Lib.hid ⟨by simp; omega, by intro s hs; simp at hs; rw [hs]; exact htx⟩
            have XB1 := Lib.hid (HF.out.type_kept TB.out HX1.out (by decide) (by decide))
            have XB2 := Lib.hid (HF.out.type_kept TB.out HX2.out (by decide) (by decide))
            have BIND := Lib.hid (bind_any nb tb bm ((M + 1) * q) B (some ⟨bd, off, none⟩) M cap (.slice (some ⟨wo.heap.size, 0, none⟩) 1 1) [t0] wB FB.out.bound NM.out.1 NL.out.2 (by have := NL.out.1; omega) (Nat.le_trans (Nat.mul_le_mul (show M + 1 ≤ 4001 by omega) hq4) (by decide)))
            unfold fdV at BIND
            have HWB := Lib.hid hwB
            obtain ⟨q0, q1, q2⟩ := fd_cells XB1.out
            obtain ⟨p0, p1, p2, p3⟩ := box_of XB2.out
            obtain ⟨z0, z1, z2, z3⟩ := box_of HX2.out
            obtain ⟨j0, j1, j2⟩ := fd_cells HX1.out
            clear hbi' hbi
            have hx1 := lt_of_heap HX1.out
            have hx2 := lt_of_heap HX2.out
            go_wp2_with (first
              | (go_at_call 67; refine (B67.out _).mono ?_; rintro e w5 ⟨rfl, rfl⟩)
              | (go_at_call 68; refine (B68.out _).mono ?_; rintro e w5 ⟨rfl, rfl⟩)
              | fail)
            rw [← HWB.out]
            refine BIND.out.mono ?_
            rintro e w3 ⟨fv, fr, rfl, bd⟩
            have BDH := Lib.hid bd
            have fs3 : Fs W.heap.size nb tb tm bm (fun s => B s || inB s [t0]) ((M + 1) * q + ([t0] : List ByteArray).length) q v' acc' w3 := FB.out.of_bm bd.grown bd.set
            have t3 : Tr W.heap.size nb tm bm v' v' wB w3 := Tr.of_bm bd.grown FB.out.hbm FB.out.lt
            obtain ⟨y0, y1, y2⟩ := fd_cells (FB.out.type_kept t3 XB1.out (by decide) (by decide))
            have FIND := Lib.hid (find_pre (r := r) (post := post) (pre' := pre') HREST.out.2.2.2.2.2.2.1 HM.out HREST.out.2.1 HREST.out.2.2.1 fs3 NL.out.1 (HBEL.out.trans ((HT.out.trans TB.out).trans t3).below))
            unfold fdV at FIND
            have FS3 := Lib.hid fs3
            clear bd fs3 t3 q0 q1 q2 p0 p1 p2 p3 z0 z1 z2 z3 j0 j1 j2
            go_wp2_with fail
            refine FIND.out.mono ?_
            rintro e w4 ⟨rfl, v4, fs4, tr4⟩
            have FS4 := Lib.hid fs4
            have TR4 := Lib.hid tr4
            have REL := Lib.hid (show _ from by
              obtain ⟨u1, u2, u3⟩ := release_pre FB.out BDH.out FS3.out tr4
              exact release_any _ _ nb tb bm _ _ fv _ fr w4 u1 u2 u3 fs4.bound (fun s hs => NL.out.2 s (BDH.out.sub s hs)) (by have a1 := BDH.out.len; have a2 := NL.out.1; omega))
            have hsz : wB.heap.size = wo.heap.size + 1 := by rw [HWB.out]; simp
            rw [hsz] at REL
            clear hsz
            clear fs4 tr4 y0 y1 y2
            go_wp2_with fail
            refine REL.out.mono ?_
            rintro e w6 ⟨rfl, set6, gr6⟩
            have AK := Lib.hid (after_kid FB.out BDH.out FS4.out TR4.out set6 gr6)
            clear set6 gr6
            go_wp2_with fail
            obtain ⟨r1, r2, r3, r4, r5, r6, r7, r8⟩ := HREST.out
            obtain ⟨n1, n2⟩ := FB.out.strs_kept AK.out.2 NM.out.1 NM.out.2
            refine ⟨⟨i + 1, q + 1 + kk.sz, _, rfl, by go_num, by first | go_num | simp, r, pre' ++ (m :: kk.flat), [t0], v4, _, by omega, by have := QN.out.2; omega, by rw [r2]; simp [F.flat_length]; omega, by rw [r3]; simp [F.flat], r8, r6, n1, n2, by rw [← HM.out]; exact NL.out.1, NL.out.2, by rw [← HM.out]; exact AK.out.1, kid_step RES, FB.out.type_kept AK.out.2 XB1.out (by decide) (by decide), FB.out.type_kept AK.out.2 XB2.out (by decide) (by decide), HT.out.trans (TB.out.trans AK.out.2)⟩, by simp [intOf]; omega⟩
          · have hbi' : bindsB k0 i = false := by cases hx : bindsB k0 i with | false => rfl | true => exact absurd hx hbi
            rw [hbi'] at B68 RES
            simp only [Bool.false_eq_true, if_false] at RES
            have FB := Lib.hid HF.out
            have TB : Hid (Tr W.heap.size nb tm bm v' v' wo wo) := Lib.hid (Tr.of_below (Below.refl _ _) HF.out.lt)
            have NM := HNM
            have NL := HNL
            have XB1 := Lib.hid (HF.out.type_kept TB.out HX1.out (by decide) (by decide))
            have XB2 := Lib.hid (HF.out.type_kept TB.out HX2.out (by decide) (by decide))
            have BIND := Lib.hid (bind_any nb tb bm ((M + 1) * q) B (some ⟨bd, off, none⟩) M cap nmv names wo FB.out.bound NM.out.1 NL.out.2 (by have := NL.out.1; omega) (Nat.le_trans (Nat.mul_le_mul (show M + 1 ≤ 4001 by omega) hq4) (by decide)))
            unfold fdV at BIND
            obtain ⟨q0, q1, q2⟩ := fd_cells XB1.out
            obtain ⟨p0, p1, p2, p3⟩ := box_of XB2.out
            obtain ⟨z0, z1, z2, z3⟩ := box_of HX2.out
            obtain ⟨j0, j1, j2⟩ := fd_cells HX1.out
            obtain ⟨nmp, nmc, rfl⟩ := strs_form HNM.out.1
            clear hbi' hbi
            have hx1 := lt_of_heap HX1.out
            have hx2 := lt_of_heap HX2.out
            go_wp2_with (first
              | (go_at_call 67; refine (B67.out _).mono ?_; rintro e w5 ⟨rfl, rfl⟩)
              | (go_at_call 68; refine (B68.out _).mono ?_; rintro e w5 ⟨rfl, rfl⟩)
              | fail)
            refine BIND.out.mono ?_
            rintro e w3 ⟨fv, fr, rfl, bd⟩
            have BDH := Lib.hid bd
            have fs3 : Fs W.heap.size nb tb tm bm (fun s => B s || inB s names) ((M + 1) * q + (names : List ByteArray).length) q v' acc' w3 := FB.out.of_bm bd.grown bd.set
            have t3 : Tr W.heap.size nb tm bm v' v' wo w3 := Tr.of_bm bd.grown FB.out.hbm FB.out.lt
            obtain ⟨y0, y1, y2⟩ := fd_cells (FB.out.type_kept t3 XB1.out (by decide) (by decide))
            have FIND := Lib.hid (find_pre (r := r) (post := post) (pre' := pre') HREST.out.2.2.2.2.2.2.1 HM.out HREST.out.2.1 HREST.out.2.2.1 fs3 NL.out.1 (HBEL.out.trans ((HT.out.trans TB.out).trans t3).below))
            unfold fdV at FIND
            have FS3 := Lib.hid fs3
            clear bd fs3 t3 q0 q1 q2 p0 p1 p2 p3 z0 z1 z2 z3 j0 j1 j2
            go_wp2_with fail
            refine FIND.out.mono ?_
            rintro e w4 ⟨rfl, v4, fs4, tr4⟩
            have FS4 := Lib.hid fs4
            have TR4 := Lib.hid tr4
            have REL := Lib.hid (show _ from by
              obtain ⟨u1, u2, u3⟩ := release_pre FB.out BDH.out FS3.out tr4
              exact release_any _ _ nb tb bm _ _ fv _ fr w4 u1 u2 u3 fs4.bound (fun s hs => NL.out.2 s (BDH.out.sub s hs)) (by have a1 := BDH.out.len; have a2 := NL.out.1; omega))
            clear fs4 tr4 y0 y1 y2
            go_wp2_with fail
            refine REL.out.mono ?_
            rintro e w6 ⟨rfl, set6, gr6⟩
            have AK := Lib.hid (after_kid FB.out BDH.out FS4.out TR4.out set6 gr6)
            clear set6 gr6
            go_wp2_with fail
            obtain ⟨r1, r2, r3, r4, r5, r6, r7, r8⟩ := HREST.out
            obtain ⟨n1, n2⟩ := FB.out.strs_kept AK.out.2 NM.out.1 NM.out.2
            refine ⟨⟨i + 1, q + 1 + kk.sz, _, rfl, by go_num, by first | go_num | simp, r, pre' ++ (m :: kk.flat), names, v4, _, by omega, by have := QN.out.2; omega, by rw [r2]; simp [F.flat_length]; omega, by rw [r3]; simp [F.flat], r8, r6, n1, n2, by rw [← HM.out]; exact NL.out.1, NL.out.2, by rw [← HM.out]; exact AK.out.1, kid_step RES, FB.out.type_kept AK.out.2 XB1.out (by decide) (by decide), FB.out.type_kept AK.out.2 XB2.out (by decide) (by decide), HT.out.trans (TB.out.trans AK.out.2)⟩, by simp [intOf]; omega⟩
end Go.Proofs.Ytlalnmefppbebaa
