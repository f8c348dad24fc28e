/- Texts of this seat, one behind the other: TyK. -/
import Derived.Test.YtncifeeinogcnaaGreatDoorKn06
/- unite: a variable gives way. -/
set_option maxRecDepth 100000
namespace Go.Proofs.YtncifeeinogcnaaGreatDoor
open Go.RowKit Go.Lib Go.Proofs.TreeMath
set_option maxHeartbeats 4000000 in
theorem unite_vc_nt (B pb : Nat) (S : SS) (tr : Nat → T) (bd : List Nat) (op : List (Nat × Nat)) (X Y : Nat) (w : World) (h : SV B pb w S bd op) (u : UP B pb S tr bd op X Y) (hy : yB (S.node X) (S.node Y) = false) (hkx : (S.node X).kind = 32) (hky : (S.node Y).kind = 31) (hwx : S.wi Y = true) :
    Calls Tryz.prog 114 #[pv pb, pv X, pv Y] w (UT B pb S tr bd op X Y w) := by
  have TWh := h.tw
  obtain ⟨x0, x1, x2, x3, x6, x7, xf⟩ := node_cells TWh u.hX
  obtain ⟨y0, y1, y2, y3, y6, y7, yf⟩ := node_cells TWh u.hY
  have heq := eql_terms TWh u.hX u.hY
  rw [decide_eq_false u.ne] at heq
  have YC := fun W => yields_any (S.node X) (S.node Y) W
  clear x6 x7 y6 y7
  obtain ⟨nX, hnX⟩ : ∃ n, n = S.node X := ⟨_, rfl⟩
  obtain ⟨nY, hnY⟩ : ∃ n, n = S.node Y := ⟨_, rfl⟩
  rw [← hnX] at x0 x1 x2 x3
  rw [← hnY] at y0 y1 y2 y3
  rw [← hnX, ← hnY] at hy YC
  unfold Nd.val at YC
  rw [show YRet nX nY = (fun w e w' => e = .returned (.bool false) ∧ Below w.heap.size w w') by unfold YRet; rw [hy]] at YC
  have YC := Lib.hid YC
  rw [← hnX] at hkx
  rw [← hnY] at hky
  have HKX := Lib.hid hkx
  have HKY := Lib.hid hky
  have WX := Lib.hid hwx
  clear hkx hky hwx
  have HX := Lib.hid hnX
  have HY := Lib.hid hnY
  have H := Lib.hid h
  have U := Lib.hid u
  clear h u hnX hnY hy TWh xf yf
  unfold pv
  go_enter Tryz.func114, Tryz.ntmps114
  go_wp2
  have x0' := cell_regrown x0
  have x1' := cell_regrown x1
  have x2' := cell_regrown x2
  have x3' := cell_regrown x3
  have y0' := cell_regrown y0
  have y1' := cell_regrown y1
  have y2' := cell_regrown y2
  have y3' := cell_regrown y3
  clear x0 x1 x2 x3 y0 y1 y2 y3
  refine wp_region_quiet_below (by kernel_rfl) (by kernel_rfl) ?_
  repeat (go_big_quiet_step ((go_at_call 131; exact Calls.regrown_of (YC.out _))))
  refine wpQuiet_nil ?_
  intro _ hw'
  obtain ⟨⟨dq, osq⟩, hw''⟩ := hw'
  subst hw''
  clear x0' x1' x2' x3' y0' y1' y2' y3' YC heq
  have BA := below_regrown w dq osq
  obtain ⟨wa, hwa⟩ : ∃ wa, wa = Sort.grow (redrawn w dq) osq := ⟨_, rfl⟩
  rw [← hwa] at BA ⊢
  clear hwa
  have HA := H.out.below BA
  obtain ⟨x0, x1, x2, x3, x6, x7, xf⟩ := node_cells HA.tw U.out.hX
  obtain ⟨y0, y1, y2, y3, y6, y7, yf⟩ := node_cells HA.tw U.out.hY
  rw [← HX.out] at x0 x1 x2 x3
  rw [← HY.out] at y0 y1 y2 y3
  have FA : Frm (S.Dp pb) B w wa := Frm.of_below (BA.mono H.out.tw.fit)
  have x6f := xf 6
  have HA := Lib.hid HA
  have FA := Lib.hid FA
  clear x7 y7 BA xf yf
  have KY : Hid ((S.node Y).kind = 31) := Lib.hid (by rw [← HY.out]; exact HKY.out)
  have KX : Hid ((S.node X).kind = 32) := Lib.hid (by rw [← HX.out]; exact HKX.out)
  have t1 : (nY.kind == 32) = false := by simp [HKY.out]
  have t2 : (nX.kind == 31) = false := by simp [HKX.out]
  have t3 : (nY.kind == 31) = true := by simp [HKY.out]
  rw [WX.out] at y6
  go_upto_block 0 with fail
  go_cut [] from 23 to 97 (fun wx => Mid B pb S tr bd op X Y w wx)
  case first =>
    have SM : Hid (∀ m, SV B pb (wa.drewN m) (S1 S tr X Y) bd op ∧ Frm (S.Dp pb) B w (wa.drewN m)) := Lib.hid fun m => by
      have bd' := below_drewN (Below.refl wa.heap.size wa) m
      refine ⟨((HA.out.below bd').terms ((HA.out.below bd').tw.same_wi _ fun z => ?_) fun _ _ _ => rfl), FA.out.trans (Frm.of_below (bd'.mono HA.out.tw.fit))⟩
      unfold wiU
      rw [if_neg]; intro h; rw [show ((S.gr tr).node X).kind = 32 from KX.out] at h; exact absurd h.2 (by decide)
    have e1 : bdU (S.gr tr) S.wi bd X Y = bd ++ [Y] := by unfold bdU; rw [if_pos ⟨by rw [show ((S.gr tr).node X).kind = 32 from KX.out]; decide, KY.out, WX.out⟩]
    have EB := Lib.hid e1
    clear e1
    have HLB := Lib.hid U.out.lb
    go_wp2_with fail
    go_quiet (fail)
    obtain ⟨hs, hf⟩ := SM.out nq
    obtain ⟨wb, hwb⟩ : ∃ wb, wb = wa.drewN nq := ⟨_, rfl⟩
    rw [← hwb] at hs hf ⊢
    clear hwb SM
    obtain ⟨x0, x1, x2, x3, x6, x7, xf⟩ := node_cells hs.tw (x := X) U.out.hX
    obtain ⟨y0, y1, y2, y3, y6, y7, yf⟩ := node_cells hs.tw (x := Y) U.out.hY
    change wb.cell? ⟨X, 0, none⟩ = some (.int .i64 (S.node X).kind) at x0
    change wb.cell? ⟨Y, 0, none⟩ = some (.int .i64 (S.node Y).kind) at y0
    change wb.cell? ⟨Y, 6, none⟩ = some (.bool (wiU (S.gr tr) S.wi X Y Y)) at y6
    rw [← HX.out] at x0
    rw [← HY.out] at y0
    rw [show wiU (S.gr tr) S.wi X Y Y = true by unfold wiU; rw [if_neg (fun h => U.out.ne h.1.symm)]; exact WX.out] at y6
    obtain ⟨ov, bv, hp, ho, hbv⟩ := hs.ex
    have p1 := cell_of_heap hp 1
    have pf := frozen_of_heap hp 1
    simp only [List.getElem?_toArray, List.getElem?_cons_succ, List.getElem?_cons_zero] at p1
    obtain ⟨qb, cb, hbvf⟩ := row_form hbv
    subst hbvf
    obtain ⟨nb, hnb⟩ : ∃ nb, nb = bd.length := ⟨_, rfl⟩
    have hnb9 : nb ≤ 1000000000 := by rw [hnb]; have := HLB.out; omega
    rw [← hnb] at p1 hp hbv
    have hBw : B ≤ wb.heap.size := hs.tw.fit
    obtain ⟨j0, j1, j2, j3, j4⟩ := info79
    have HJ := Lib.hid (And.intro j1 (And.intro j2 (And.intro j3 j4)))
    have HP := Lib.hid hp
    have HO := Lib.hid ho
    have HBV := Lib.hid hbv
    have HNB := Lib.hid hnb
    have HS := Lib.hid hs
    have HF := Lib.hid hf
    have hpl : pb < wb.heap.size := (Array.getElem?_eq_some_iff.1 hp).1
    have NPB := Lib.hid (show some pb ≠ (Value.slice qb nb cb).ownBlock from fun e => by
      obtain ⟨cur, hc⟩ := row_ty hbv e.symm
      rw [hp] at hc; simp at hc)
    have HMX := Lib.hid (show nb + 1 ≤ maxLen ∧ (nb + 1) * 8 ≤ 140737488355328 ∧ B ≤ (wb.alloc (.cells #[.pointer (some ⟨Y, 0, none⟩)] 93)).heap.size from ⟨by unfold maxLen; omega, by omega, by simp; omega⟩)
    have AL := Lib.hid ((Below.refl wb.heap.size wb).alloc (Nat.le_refl _) (.cells #[.pointer (some ⟨Y, 0, none⟩)] 93))
    have ROW := Lib.hid (hbv.alloc (.cells #[.pointer (some ⟨Y, 0, none⟩)] 93))
    have c1 := (AL.out.cell (p := ⟨pb, 1, none⟩) hpl).trans p1
    have f1 := (AL.out.frozen (p := ⟨pb, 1, none⟩) hpl).trans pf
    have C1 := Lib.hid c1
    have F1 := Lib.hid f1
    clear x1 x2 x3 x6 x7 xf y1 y2 y3 y7 yf hp ho hbv hnb hs hf hpl j1 j2 j3 j4 hBw hnb9 c1 f1
    go_wp2_with (at_builtin; refine wpList_append_any _ rfl _ _ 126 rfl B 93 j0 (.pointer none) 1 8 Tryz.underlying126 HJ.out.1 HJ.out.2.1 HJ.out.2.2.1 HJ.out.2.2.2 rfl (by decide) (.slice qb nb cb) nb (bd.map pv) rfl ROW.out (some ⟨wb.heap.size, 0, none⟩) 1 1 [.pointer (some ⟨Y, 0, none⟩)] rfl rfl (fun _ => ⟨_, rfl, cell_one_new _ _ _⟩) (by intro u hu; simp at hu; rw [hu]; rfl) HMX.out.1 HMX.out.2.1 HMX.out.2.2 ?_; intro p' cap' w7 hown hgrow hblk; have RN := Lib.hid hown; have GN := Lib.hid hgrow; have c7 := hgrow.cell C1.out NPB.out; have f7 := (World.frozen?_of_block (w := wb.alloc (.cells #[.pointer (some ⟨Y, 0, none⟩)] 93)) (w' := w7) (a := ⟨pb, 1, none⟩) (hgrow.block pb (Nat.lt_of_lt_of_le (Array.getElem?_eq_some_iff.1 HP.out).1 AL.out.size) NPB.out)).trans F1.out; clear hown hgrow hblk)
    go_meet
    obtain ⟨s1, s2⟩ := HS.out.ask HP.out HO.out (by rw [← HNB.out]; exact HBV.out) AL.out GN.out (y := Y) (by rw [← HNB.out]; exact RN.out)
    unfold Mid
    rw [EB.out]
    exact ⟨s1, HF.out.trans (s2.mono (Nat.le_refl _) fun k _ e => .inr e)⟩
  case rest =>
    obtain ⟨hv, hf⟩ := hcut
    have TM := hv.tw
    have kz : S.kids Y = [] := (U.out.ok.var Y U.out.hY KY.out).2.2
    obtain ⟨q, c, c4, hk, hq, hnc, hcm, fz⟩ := TM.root (x := Y) U.out.hY U.out.rY
    change wc.cell? ⟨Y, 4, none⟩ = some (.slice q (S.kids Y).length c) at c4
    rw [kz, List.length_nil] at c4
    have f5 := fz 5
    have f4 := fz 4
    have c5 : ∃ v, wc.cell? ⟨Y, 5, none⟩ = some v := by
      obtain ⟨y, ky⟩ := TM
      obtain ⟨kv, _, _, _, _, _, c5, _⟩ := ky.cells (x := Y) U.out.hY
      exact ⟨_, c5⟩
    obtain ⟨v5, c5⟩ := c5
    have c42 : (wc.setCell ⟨Y, 5, none⟩ (.pointer (some ⟨X, 0, none⟩))).cell? ⟨Y, 4, none⟩ = some (.slice q 0 c) := by
      rw [World.cell?_setCell_other _ _ _ _ (by simp)]; exact c4
    have E : Hid (UT B pb S tr bd op X Y w (.returned (.bool true)) ((wc.setCell ⟨Y, 5, none⟩ (.pointer (some ⟨X, 0, none⟩))).setCell ⟨Y, 4, none⟩ (.slice none 0 0))) := by
      have TG := TM.give (X := X) (Y := Y) U.out.hX U.out.hY U.out.rX U.out.rY U.out.ne
      have nY := hv.not_term (x := Y) U.out.hY
      refine ⟨rfl, ?_, (hf.setCell (x := Y) (i := 5) (.inl U.out.hY) _).setCell (x := Y) (i := 4) (.inl U.out.hY) _⟩
      rw [kz, List.zip_nil_left, List.append_nil]
      refine hv.terms TG fun j hj _ => ?_
      rw [Below.heap_setCell _ _ _ _ (nY j hj), Below.heap_setCell _ _ _ _ (nY j hj)]
    clear hv hf TM hk hq hnc hcm fz kz
    go_wp2
    go_loopw [89] (fun i wr => i = .int .i64 0 ∧ wr = wc) (fun i _ => 0)
    case atStart => exact ⟨rfl, rfl⟩
    case round =>
      obtain ⟨rfl, rfl⟩ := hrel
      go_wp2
      go_ret
      exact E.out
set_option maxHeartbeats 4000000 in
theorem unite_vc_nf (B pb : Nat) (S : SS) (tr : Nat → T) (bd : List Nat) (op : List (Nat × Nat)) (X Y : Nat) (w : World) (h : SV B pb w S bd op) (u : UP B pb S tr bd op X Y) (hy : yB (S.node X) (S.node Y) = false) (hkx : (S.node X).kind = 32) (hky : (S.node Y).kind = 31) (hwx : S.wi Y = false) :
    Calls Tryz.prog 114 #[pv pb, pv X, pv Y] w (UT B pb S tr bd op X Y w) := by
  have TWh := h.tw
  obtain ⟨x0, x1, x2, x3, x6, x7, xf⟩ := node_cells TWh u.hX
  obtain ⟨y0, y1, y2, y3, y6, y7, yf⟩ := node_cells TWh u.hY
  have heq := eql_terms TWh u.hX u.hY
  rw [decide_eq_false u.ne] at heq
  have YC := fun W => yields_any (S.node X) (S.node Y) W
  clear x6 x7 y6 y7
  obtain ⟨nX, hnX⟩ : ∃ n, n = S.node X := ⟨_, rfl⟩
  obtain ⟨nY, hnY⟩ : ∃ n, n = S.node Y := ⟨_, rfl⟩
  rw [← hnX] at x0 x1 x2 x3
  rw [← hnY] at y0 y1 y2 y3
  rw [← hnX, ← hnY] at hy YC
  unfold Nd.val at YC
  rw [show YRet nX nY = (fun w e w' => e = .returned (.bool false) ∧ Below w.heap.size w w') by unfold YRet; rw [hy]] at YC
  have YC := Lib.hid YC
  rw [← hnX] at hkx
  rw [← hnY] at hky
  have HKX := Lib.hid hkx
  have HKY := Lib.hid hky
  have WX := Lib.hid hwx
  clear hkx hky hwx
  have HX := Lib.hid hnX
  have HY := Lib.hid hnY
  have H := Lib.hid h
  have U := Lib.hid u
  clear h u hnX hnY hy TWh xf yf
  unfold pv
  go_enter Tryz.func114, Tryz.ntmps114
  go_wp2
  have x0' := cell_regrown x0
  have x1' := cell_regrown x1
  have x2' := cell_regrown x2
  have x3' := cell_regrown x3
  have y0' := cell_regrown y0
  have y1' := cell_regrown y1
  have y2' := cell_regrown y2
  have y3' := cell_regrown y3
  clear x0 x1 x2 x3 y0 y1 y2 y3
  refine wp_region_quiet_below (by kernel_rfl) (by kernel_rfl) ?_
  repeat (go_big_quiet_step ((go_at_call 131; exact Calls.regrown_of (YC.out _))))
  refine wpQuiet_nil ?_
  intro _ hw'
  obtain ⟨⟨dq, osq⟩, hw''⟩ := hw'
  subst hw''
  clear x0' x1' x2' x3' y0' y1' y2' y3' YC heq
  have BA := below_regrown w dq osq
  obtain ⟨wa, hwa⟩ : ∃ wa, wa = Sort.grow (redrawn w dq) osq := ⟨_, rfl⟩
  rw [← hwa] at BA ⊢
  clear hwa
  have HA := H.out.below BA
  obtain ⟨x0, x1, x2, x3, x6, x7, xf⟩ := node_cells HA.tw U.out.hX
  obtain ⟨y0, y1, y2, y3, y6, y7, yf⟩ := node_cells HA.tw U.out.hY
  rw [← HX.out] at x0 x1 x2 x3
  rw [← HY.out] at y0 y1 y2 y3
  have FA : Frm (S.Dp pb) B w wa := Frm.of_below (BA.mono H.out.tw.fit)
  have x6f := xf 6
  have HA := Lib.hid HA
  have FA := Lib.hid FA
  clear x7 y7 BA xf yf
  have KY : Hid ((S.node Y).kind = 31) := Lib.hid (by rw [← HY.out]; exact HKY.out)
  have KX : Hid ((S.node X).kind = 32) := Lib.hid (by rw [← HX.out]; exact HKX.out)
  have t1 : (nY.kind == 32) = false := by simp [HKY.out]
  have t2 : (nX.kind == 31) = false := by simp [HKX.out]
  have t3 : (nY.kind == 31) = true := by simp [HKY.out]
  rw [WX.out] at y6
  go_upto_block 0 with fail
  go_cut [] from 23 to 97 (fun wx => Mid B pb S tr bd op X Y w wx)
  case first =>
    have E : Hid (∀ m, Mid B pb S tr bd op X Y w (wa.drewN m)) := Lib.hid fun m => by
      have bd' := below_drewN (Below.refl wa.heap.size wa) m
      have e1 : bdU (S.gr tr) S.wi bd X Y = bd := by unfold bdU; rw [if_neg]; intro h; rw [WX.out] at h; exact absurd h.2.2 (by decide)
      unfold Mid
      rw [e1]
      refine ⟨((HA.out.below bd').terms ((HA.out.below bd').tw.same_wi _ fun z => ?_) fun _ _ _ => rfl), FA.out.trans (Frm.of_below (bd'.mono HA.out.tw.fit))⟩
      unfold wiU
      rw [if_neg]; intro h; rw [show ((S.gr tr).node X).kind = 32 from KX.out] at h; exact absurd h.2 (by decide)
    go_wp2_with fail
    go_quiet (fail)
    go_wp2
    go_meet
    exact E.out _
  case rest =>
    obtain ⟨hv, hf⟩ := hcut
    have TM := hv.tw
    have kz : S.kids Y = [] := (U.out.ok.var Y U.out.hY KY.out).2.2
    obtain ⟨q, c, c4, hk, hq, hnc, hcm, fz⟩ := TM.root (x := Y) U.out.hY U.out.rY
    change wc.cell? ⟨Y, 4, none⟩ = some (.slice q (S.kids Y).length c) at c4
    rw [kz, List.length_nil] at c4
    have f5 := fz 5
    have f4 := fz 4
    have c5 : ∃ v, wc.cell? ⟨Y, 5, none⟩ = some v := by
      obtain ⟨y, ky⟩ := TM
      obtain ⟨kv, _, _, _, _, _, c5, _⟩ := ky.cells (x := Y) U.out.hY
      exact ⟨_, c5⟩
    obtain ⟨v5, c5⟩ := c5
    have c42 : (wc.setCell ⟨Y, 5, none⟩ (.pointer (some ⟨X, 0, none⟩))).cell? ⟨Y, 4, none⟩ = some (.slice q 0 c) := by
      rw [World.cell?_setCell_other _ _ _ _ (by simp)]; exact c4
    have E : Hid (UT B pb S tr bd op X Y w (.returned (.bool true)) ((wc.setCell ⟨Y, 5, none⟩ (.pointer (some ⟨X, 0, none⟩))).setCell ⟨Y, 4, none⟩ (.slice none 0 0))) := by
      have TG := TM.give (X := X) (Y := Y) U.out.hX U.out.hY U.out.rX U.out.rY U.out.ne
      have nY := hv.not_term (x := Y) U.out.hY
      refine ⟨rfl, ?_, (hf.setCell (x := Y) (i := 5) (.inl U.out.hY) _).setCell (x := Y) (i := 4) (.inl U.out.hY) _⟩
      rw [kz, List.zip_nil_left, List.append_nil]
      refine hv.terms TG fun j hj _ => ?_
      rw [Below.heap_setCell _ _ _ _ (nY j hj), Below.heap_setCell _ _ _ _ (nY j hj)]
    clear hv hf TM hk hq hnc hcm fz kz
    go_wp2
    go_loopw [89] (fun i wr => i = .int .i64 0 ∧ wr = wc) (fun i _ => 0)
    case atStart => exact ⟨rfl, rfl⟩
    case round =>
      obtain ⟨rfl, rfl⟩ := hrel
      go_wp2
      go_ret
      exact E.out
set_option maxHeartbeats 4000000 in
theorem unite_vc_st (B pb : Nat) (S : SS) (tr : Nat → T) (bd : List Nat) (op : List (Nat × Nat)) (X Y : Nat) (w : World) (h : SV B pb w S bd op) (u : UP B pb S tr bd op X Y) (hy : yB (S.node Y) (S.node X) = true) (hkx : (S.node X).kind = 32) (hky : (S.node Y).kind = 31) (hwx : S.wi Y = true) :
    Calls Tryz.prog 114 #[pv pb, pv Y, pv X] w (UT B pb S tr bd op X Y w) := by
  have TWh := h.tw
  obtain ⟨x0, x1, x2, x3, x6, x7, xf⟩ := node_cells TWh u.hX
  obtain ⟨y0, y1, y2, y3, y6, y7, yf⟩ := node_cells TWh u.hY
  have heq := eql_terms TWh u.hY u.hX
  rw [decide_eq_false (Ne.symm u.ne)] at heq
  have YC := fun W => yields_any (S.node Y) (S.node X) W
  clear x6 x7 y6 y7
  obtain ⟨nX, hnX⟩ : ∃ n, n = S.node X := ⟨_, rfl⟩
  obtain ⟨nY, hnY⟩ : ∃ n, n = S.node Y := ⟨_, rfl⟩
  rw [← hnX] at x0 x1 x2 x3
  rw [← hnY] at y0 y1 y2 y3
  rw [← hnY, ← hnX] at hy YC
  unfold Nd.val at YC
  rw [show YRet nY nX = (fun w e w' => e = .returned (.bool true) ∧ Below w.heap.size w w') by unfold YRet; rw [hy]] at YC
  have YC := Lib.hid YC
  rw [← hnX] at hkx
  rw [← hnY] at hky
  have HKX := Lib.hid hkx
  have HKY := Lib.hid hky
  have WX := Lib.hid hwx
  clear hkx hky hwx
  have HX := Lib.hid hnX
  have HY := Lib.hid hnY
  have H := Lib.hid h
  have U := Lib.hid u
  clear h u hnX hnY hy TWh xf yf
  unfold pv
  go_enter Tryz.func114, Tryz.ntmps114
  go_wp2
  have x0' := cell_regrown x0
  have x1' := cell_regrown x1
  have x2' := cell_regrown x2
  have x3' := cell_regrown x3
  have y0' := cell_regrown y0
  have y1' := cell_regrown y1
  have y2' := cell_regrown y2
  have y3' := cell_regrown y3
  clear x0 x1 x2 x3 y0 y1 y2 y3
  refine wp_region_quiet_below (by kernel_rfl) (by kernel_rfl) ?_
  repeat (go_big_quiet_step ((go_at_call 131; exact Calls.regrown_of (YC.out _))))
  refine wpQuiet_nil ?_
  intro _ hw'
  obtain ⟨⟨dq, osq⟩, hw''⟩ := hw'
  subst hw''
  clear x0' x1' x2' x3' y0' y1' y2' y3' YC heq
  have BA := below_regrown w dq osq
  obtain ⟨wa, hwa⟩ : ∃ wa, wa = Sort.grow (redrawn w dq) osq := ⟨_, rfl⟩
  rw [← hwa] at BA ⊢
  clear hwa
  have HA := H.out.below BA
  obtain ⟨x0, x1, x2, x3, x6, x7, xf⟩ := node_cells HA.tw U.out.hX
  obtain ⟨y0, y1, y2, y3, y6, y7, yf⟩ := node_cells HA.tw U.out.hY
  rw [← HX.out] at x0 x1 x2 x3
  rw [← HY.out] at y0 y1 y2 y3
  have FA : Frm (S.Dp pb) B w wa := Frm.of_below (BA.mono H.out.tw.fit)
  have x6f := xf 6
  have HA := Lib.hid HA
  have FA := Lib.hid FA
  clear x7 y7 BA xf yf
  have KY : Hid ((S.node Y).kind = 31) := Lib.hid (by rw [← HY.out]; exact HKY.out)
  have KX : Hid ((S.node X).kind = 32) := Lib.hid (by rw [← HX.out]; exact HKX.out)
  have t1 : (nY.kind == 32) = false := by simp [HKY.out]
  have t2 : (nX.kind == 31) = false := by simp [HKX.out]
  have t3 : (nY.kind == 31) = true := by simp [HKY.out]
  rw [WX.out] at y6
  go_upto_block 0 with fail
  go_cut [] from 23 to 97 (fun wx => Mid B pb S tr bd op X Y w wx)
  case first =>
    have SM : Hid (∀ m, SV B pb (wa.drewN m) (S1 S tr X Y) bd op ∧ Frm (S.Dp pb) B w (wa.drewN m)) := Lib.hid fun m => by
      have bd' := below_drewN (Below.refl wa.heap.size wa) m
      refine ⟨((HA.out.below bd').terms ((HA.out.below bd').tw.same_wi _ fun z => ?_) fun _ _ _ => rfl), FA.out.trans (Frm.of_below (bd'.mono HA.out.tw.fit))⟩
      unfold wiU
      rw [if_neg]; intro h; rw [show ((S.gr tr).node X).kind = 32 from KX.out] at h; exact absurd h.2 (by decide)
    have e1 : bdU (S.gr tr) S.wi bd X Y = bd ++ [Y] := by unfold bdU; rw [if_pos ⟨by rw [show ((S.gr tr).node X).kind = 32 from KX.out]; decide, KY.out, WX.out⟩]
    have EB := Lib.hid e1
    clear e1
    have HLB := Lib.hid U.out.lb
    go_wp2_with fail
    go_quiet (fail)
    obtain ⟨hs, hf⟩ := SM.out nq
    obtain ⟨wb, hwb⟩ : ∃ wb, wb = wa.drewN nq := ⟨_, rfl⟩
    rw [← hwb] at hs hf ⊢
    clear hwb SM
    obtain ⟨x0, x1, x2, x3, x6, x7, xf⟩ := node_cells hs.tw (x := X) U.out.hX
    obtain ⟨y0, y1, y2, y3, y6, y7, yf⟩ := node_cells hs.tw (x := Y) U.out.hY
    change wb.cell? ⟨X, 0, none⟩ = some (.int .i64 (S.node X).kind) at x0
    change wb.cell? ⟨Y, 0, none⟩ = some (.int .i64 (S.node Y).kind) at y0
    change wb.cell? ⟨Y, 6, none⟩ = some (.bool (wiU (S.gr tr) S.wi X Y Y)) at y6
    rw [← HX.out] at x0
    rw [← HY.out] at y0
    rw [show wiU (S.gr tr) S.wi X Y Y = true by unfold wiU; rw [if_neg (fun h => U.out.ne h.1.symm)]; exact WX.out] at y6
    obtain ⟨ov, bv, hp, ho, hbv⟩ := hs.ex
    have p1 := cell_of_heap hp 1
    have pf := frozen_of_heap hp 1
    simp only [List.getElem?_toArray, List.getElem?_cons_succ, List.getElem?_cons_zero] at p1
    obtain ⟨qb, cb, hbvf⟩ := row_form hbv
    subst hbvf
    obtain ⟨nb, hnb⟩ : ∃ nb, nb = bd.length := ⟨_, rfl⟩
    have hnb9 : nb ≤ 1000000000 := by rw [hnb]; have := HLB.out; omega
    rw [← hnb] at p1 hp hbv
    have hBw : B ≤ wb.heap.size := hs.tw.fit
    obtain ⟨j0, j1, j2, j3, j4⟩ := info79
    have HJ := Lib.hid (And.intro j1 (And.intro j2 (And.intro j3 j4)))
    have HP := Lib.hid hp
    have HO := Lib.hid ho
    have HBV := Lib.hid hbv
    have HNB := Lib.hid hnb
    have HS := Lib.hid hs
    have HF := Lib.hid hf
    have hpl : pb < wb.heap.size := (Array.getElem?_eq_some_iff.1 hp).1
    have NPB := Lib.hid (show some pb ≠ (Value.slice qb nb cb).ownBlock from fun e => by
      obtain ⟨cur, hc⟩ := row_ty hbv e.symm
      rw [hp] at hc; simp at hc)
    have HMX := Lib.hid (show nb + 1 ≤ maxLen ∧ (nb + 1) * 8 ≤ 140737488355328 ∧ B ≤ (wb.alloc (.cells #[.pointer (some ⟨Y, 0, none⟩)] 93)).heap.size from ⟨by unfold maxLen; omega, by omega, by simp; omega⟩)
    have AL := Lib.hid ((Below.refl wb.heap.size wb).alloc (Nat.le_refl _) (.cells #[.pointer (some ⟨Y, 0, none⟩)] 93))
    have ROW := Lib.hid (hbv.alloc (.cells #[.pointer (some ⟨Y, 0, none⟩)] 93))
    have c1 := (AL.out.cell (p := ⟨pb, 1, none⟩) hpl).trans p1
    have f1 := (AL.out.frozen (p := ⟨pb, 1, none⟩) hpl).trans pf
    have C1 := Lib.hid c1
    have F1 := Lib.hid f1
    clear x1 x2 x3 x6 x7 xf y1 y2 y3 y7 yf hp ho hbv hnb hs hf hpl j1 j2 j3 j4 hBw hnb9 c1 f1
    go_wp2_with (at_builtin; refine wpList_append_any _ rfl _ _ 126 rfl B 93 j0 (.pointer none) 1 8 Tryz.underlying126 HJ.out.1 HJ.out.2.1 HJ.out.2.2.1 HJ.out.2.2.2 rfl (by decide) (.slice qb nb cb) nb (bd.map pv) rfl ROW.out (some ⟨wb.heap.size, 0, none⟩) 1 1 [.pointer (some ⟨Y, 0, none⟩)] rfl rfl (fun _ => ⟨_, rfl, cell_one_new _ _ _⟩) (by intro u hu; simp at hu; rw [hu]; rfl) HMX.out.1 HMX.out.2.1 HMX.out.2.2 ?_; intro p' cap' w7 hown hgrow hblk; have RN := Lib.hid hown; have GN := Lib.hid hgrow; have c7 := hgrow.cell C1.out NPB.out; have f7 := (World.frozen?_of_block (w := wb.alloc (.cells #[.pointer (some ⟨Y, 0, none⟩)] 93)) (w' := w7) (a := ⟨pb, 1, none⟩) (hgrow.block pb (Nat.lt_of_lt_of_le (Array.getElem?_eq_some_iff.1 HP.out).1 AL.out.size) NPB.out)).trans F1.out; clear hown hgrow hblk)
    go_meet
    obtain ⟨s1, s2⟩ := HS.out.ask HP.out HO.out (by rw [← HNB.out]; exact HBV.out) AL.out GN.out (y := Y) (by rw [← HNB.out]; exact RN.out)
    unfold Mid
    rw [EB.out]
    exact ⟨s1, HF.out.trans (s2.mono (Nat.le_refl _) fun k _ e => .inr e)⟩
  case rest =>
    obtain ⟨hv, hf⟩ := hcut
    have TM := hv.tw
    have kz : S.kids Y = [] := (U.out.ok.var Y U.out.hY KY.out).2.2
    obtain ⟨q, c, c4, hk, hq, hnc, hcm, fz⟩ := TM.root (x := Y) U.out.hY U.out.rY
    change wc.cell? ⟨Y, 4, none⟩ = some (.slice q (S.kids Y).length c) at c4
    rw [kz, List.length_nil] at c4
    have f5 := fz 5
    have f4 := fz 4
    have c5 : ∃ v, wc.cell? ⟨Y, 5, none⟩ = some v := by
      obtain ⟨y, ky⟩ := TM
      obtain ⟨kv, _, _, _, _, _, c5, _⟩ := ky.cells (x := Y) U.out.hY
      exact ⟨_, c5⟩
    obtain ⟨v5, c5⟩ := c5
    have c42 : (wc.setCell ⟨Y, 5, none⟩ (.pointer (some ⟨X, 0, none⟩))).cell? ⟨Y, 4, none⟩ = some (.slice q 0 c) := by
      rw [World.cell?_setCell_other _ _ _ _ (by simp)]; exact c4
    have E : Hid (UT B pb S tr bd op X Y w (.returned (.bool true)) ((wc.setCell ⟨Y, 5, none⟩ (.pointer (some ⟨X, 0, none⟩))).setCell ⟨Y, 4, none⟩ (.slice none 0 0))) := by
      have TG := TM.give (X := X) (Y := Y) U.out.hX U.out.hY U.out.rX U.out.rY U.out.ne
      have nY := hv.not_term (x := Y) U.out.hY
      refine ⟨rfl, ?_, (hf.setCell (x := Y) (i := 5) (.inl U.out.hY) _).setCell (x := Y) (i := 4) (.inl U.out.hY) _⟩
      rw [kz, List.zip_nil_left, List.append_nil]
      refine hv.terms TG fun j hj _ => ?_
      rw [Below.heap_setCell _ _ _ _ (nY j hj), Below.heap_setCell _ _ _ _ (nY j hj)]
    clear hv hf TM hk hq hnc hcm fz kz
    go_wp2
    go_loopw [89] (fun i wr => i = .int .i64 0 ∧ wr = wc) (fun i _ => 0)
    case atStart => exact ⟨rfl, rfl⟩
    case round =>
      obtain ⟨rfl, rfl⟩ := hrel
      go_wp2
      go_ret
      exact E.out
set_option maxHeartbeats 4000000 in
theorem unite_vc_sf (B pb : Nat) (S : SS) (tr : Nat → T) (bd : List Nat) (op : List (Nat × Nat)) (X Y : Nat) (w : World) (h : SV B pb w S bd op) (u : UP B pb S tr bd op X Y) (hy : yB (S.node Y) (S.node X) = true) (hkx : (S.node X).kind = 32) (hky : (S.node Y).kind = 31) (hwx : S.wi Y = false) :
    Calls Tryz.prog 114 #[pv pb, pv Y, pv X] w (UT B pb S tr bd op X Y w) := by
  have TWh := h.tw
  obtain ⟨x0, x1, x2, x3, x6, x7, xf⟩ := node_cells TWh u.hX
  obtain ⟨y0, y1, y2, y3, y6, y7, yf⟩ := node_cells TWh u.hY
  have heq := eql_terms TWh u.hY u.hX
  rw [decide_eq_false (Ne.symm u.ne)] at heq
  have YC := fun W => yields_any (S.node Y) (S.node X) W
  clear x6 x7 y6 y7
  obtain ⟨nX, hnX⟩ : ∃ n, n = S.node X := ⟨_, rfl⟩
  obtain ⟨nY, hnY⟩ : ∃ n, n = S.node Y := ⟨_, rfl⟩
  rw [← hnX] at x0 x1 x2 x3
  rw [← hnY] at y0 y1 y2 y3
  rw [← hnY, ← hnX] at hy YC
  unfold Nd.val at YC
  rw [show YRet nY nX = (fun w e w' => e = .returned (.bool true) ∧ Below w.heap.size w w') by unfold YRet; rw [hy]] at YC
  have YC := Lib.hid YC
  rw [← hnX] at hkx
  rw [← hnY] at hky
  have HKX := Lib.hid hkx
  have HKY := Lib.hid hky
  have WX := Lib.hid hwx
  clear hkx hky hwx
  have HX := Lib.hid hnX
  have HY := Lib.hid hnY
  have H := Lib.hid h
  have U := Lib.hid u
  clear h u hnX hnY hy TWh xf yf
  unfold pv
  go_enter Tryz.func114, Tryz.ntmps114
  go_wp2
  have x0' := cell_regrown x0
  have x1' := cell_regrown x1
  have x2' := cell_regrown x2
  have x3' := cell_regrown x3
  have y0' := cell_regrown y0
  have y1' := cell_regrown y1
  have y2' := cell_regrown y2
  have y3' := cell_regrown y3
  clear x0 x1 x2 x3 y0 y1 y2 y3
  refine wp_region_quiet_below (by kernel_rfl) (by kernel_rfl) ?_
  repeat (go_big_quiet_step ((go_at_call 131; exact Calls.regrown_of (YC.out _))))
  refine wpQuiet_nil ?_
  intro _ hw'
  obtain ⟨⟨dq, osq⟩, hw''⟩ := hw'
  subst hw''
  clear x0' x1' x2' x3' y0' y1' y2' y3' YC heq
  have BA := below_regrown w dq osq
  obtain ⟨wa, hwa⟩ : ∃ wa, wa = Sort.grow (redrawn w dq) osq := ⟨_, rfl⟩
  rw [← hwa] at BA ⊢
  clear hwa
  have HA := H.out.below BA
  obtain ⟨x0, x1, x2, x3, x6, x7, xf⟩ := node_cells HA.tw U.out.hX
  obtain ⟨y0, y1, y2, y3, y6, y7, yf⟩ := node_cells HA.tw U.out.hY
  rw [← HX.out] at x0 x1 x2 x3
  rw [← HY.out] at y0 y1 y2 y3
  have FA : Frm (S.Dp pb) B w wa := Frm.of_below (BA.mono H.out.tw.fit)
  have x6f := xf 6
  have HA := Lib.hid HA
  have FA := Lib.hid FA
  clear x7 y7 BA xf yf
  have KY : Hid ((S.node Y).kind = 31) := Lib.hid (by rw [← HY.out]; exact HKY.out)
  have KX : Hid ((S.node X).kind = 32) := Lib.hid (by rw [← HX.out]; exact HKX.out)
  have t1 : (nY.kind == 32) = false := by simp [HKY.out]
  have t2 : (nX.kind == 31) = false := by simp [HKX.out]
  have t3 : (nY.kind == 31) = true := by simp [HKY.out]
  rw [WX.out] at y6
  go_upto_block 0 with fail
  go_cut [] from 23 to 97 (fun wx => Mid B pb S tr bd op X Y w wx)
  case first =>
    have E : Hid (∀ m, Mid B pb S tr bd op X Y w (wa.drewN m)) := Lib.hid fun m => by
      have bd' := below_drewN (Below.refl wa.heap.size wa) m
      have e1 : bdU (S.gr tr) S.wi bd X Y = bd := by unfold bdU; rw [if_neg]; intro h; rw [WX.out] at h; exact absurd h.2.2 (by decide)
      unfold Mid
      rw [e1]
      refine ⟨((HA.out.below bd').terms ((HA.out.below bd').tw.same_wi _ fun z => ?_) fun _ _ _ => rfl), FA.out.trans (Frm.of_below (bd'.mono HA.out.tw.fit))⟩
      unfold wiU
      rw [if_neg]; intro h; rw [show ((S.gr tr).node X).kind = 32 from KX.out] at h; exact absurd h.2 (by decide)
    go_wp2_with fail
    go_quiet (fail)
    go_wp2
    go_meet
    exact E.out _
  case rest =>
    obtain ⟨hv, hf⟩ := hcut
    have TM := hv.tw
    have kz : S.kids Y = [] := (U.out.ok.var Y U.out.hY KY.out).2.2
    obtain ⟨q, c, c4, hk, hq, hnc, hcm, fz⟩ := TM.root (x := Y) U.out.hY U.out.rY
    change wc.cell? ⟨Y, 4, none⟩ = some (.slice q (S.kids Y).length c) at c4
    rw [kz, List.length_nil] at c4
    have f5 := fz 5
    have f4 := fz 4
    have c5 : ∃ v, wc.cell? ⟨Y, 5, none⟩ = some v := by
      obtain ⟨y, ky⟩ := TM
      obtain ⟨kv, _, _, _, _, _, c5, _⟩ := ky.cells (x := Y) U.out.hY
      exact ⟨_, c5⟩
    obtain ⟨v5, c5⟩ := c5
    have c42 : (wc.setCell ⟨Y, 5, none⟩ (.pointer (some ⟨X, 0, none⟩))).cell? ⟨Y, 4, none⟩ = some (.slice q 0 c) := by
      rw [World.cell?_setCell_other _ _ _ _ (by simp)]; exact c4
    have E : Hid (UT B pb S tr bd op X Y w (.returned (.bool true)) ((wc.setCell ⟨Y, 5, none⟩ (.pointer (some ⟨X, 0, none⟩))).setCell ⟨Y, 4, none⟩ (.slice none 0 0))) := by
      have TG := TM.give (X := X) (Y := Y) U.out.hX U.out.hY U.out.rX U.out.rY U.out.ne
      have nY := hv.not_term (x := Y) U.out.hY
      refine ⟨rfl, ?_, (hf.setCell (x := Y) (i := 5) (.inl U.out.hY) _).setCell (x := Y) (i := 4) (.inl U.out.hY) _⟩
      rw [kz, List.zip_nil_left, List.append_nil]
      refine hv.terms TG fun j hj _ => ?_
      rw [Below.heap_setCell _ _ _ _ (nY j hj), Below.heap_setCell _ _ _ _ (nY j hj)]
    clear hv hf TM hk hq hnc hcm fz kz
    go_wp2
    go_loopw [89] (fun i wr => i = .int .i64 0 ∧ wr = wc) (fun i _ => 0)
    case atStart => exact ⟨rfl, rfl⟩
    case round =>
      obtain ⟨rfl, rfl⟩ := hrel
      go_wp2
      go_ret
      exact E.out
end Go.Proofs.YtncifeeinogcnaaGreatDoor
