/- Texts of this seat, one behind the other: TyJ. -/
import Derived.Test.YtncifeeinogcnaaGreatDoorKn06
/- unite: two variables, and what is the same, or clashes. -/
set_option maxRecDepth 100000
namespace Go.Proofs.YtncifeeinogcnaaGreatDoor
open Go.RowKit Go.Lib Go.Proofs.TreeMath
set_option maxHeartbeats 4000000 in
theorem unite_eq (B pb : Nat) (S : SS) (X : Nat) (w : World) (h : TW B w S) (hX : X ∈ S.dom) :
    Calls Tryz.prog 114 #[pv pb, pv X, pv X] w (fun e w' => e = .returned (.bool true) ∧ w = w') := by
  have heq := eql_terms h hX hX
  rw [decide_eq_true rfl] at heq
  clear h hX
  unfold pv
  go_enter Tryz.func114, Tryz.ntmps114
  go_wp2
  go_ret
  exact ⟨rfl, rfl⟩
set_option maxHeartbeats 4000000 in
theorem unite_clash (B pb : Nat) (S : SS) (tr : Nat → T) (bd : List Nat) (op : List (Nat × Nat)) (X Y : Nat) (w : World) (h : SV B pb w S bd op) (u : UP B pb S tr bd op X Y) (hy : yB (S.node X) (S.node Y) = false) (hk : (S.node Y).kind = 32) (hn : S.node X ≠ S.node Y) :
    Calls Tryz.prog 114 #[pv pb, pv X, pv Y] w (fun e w' => e = .returned (.bool false) ∧ Frm (S.Dp pb) B w w') := by
  have TWh := h.tw
  obtain ⟨x0, x1, x2, x3, x6, x7, xf⟩ := node_cells TWh u.hX
  obtain ⟨y0, y1, y2, y3, y6, y7, yf⟩ := node_cells TWh u.hY
  have heq := eql_terms TWh u.hX u.hY
  rw [decide_eq_false u.ne] at heq
  have YC := fun W => yields_any (S.node X) (S.node Y) W
  clear x6 x7 y6 y7
  obtain ⟨nX, hnX⟩ : ∃ n, n = S.node X := ⟨_, rfl⟩
  obtain ⟨nY, hnY⟩ : ∃ n, n = S.node Y := ⟨_, rfl⟩
  rw [← hnX] at x0 x1 x2 x3
  rw [← hnY] at y0 y1 y2 y3
  rw [← hnX, ← hnY] at hy YC
  unfold Nd.val at YC
  rw [show YRet nX nY = (fun w e w' => e = .returned (.bool false) ∧ Below w.heap.size w w') by unfold YRet; rw [hy]] at YC
  have YC := Lib.hid YC
  rw [← hnX, ← hnY] at hn
  rw [← hnY] at hk
  have HN0 := Lib.hid hn
  have HK := Lib.hid hk
  clear hk hn
  have HX := Lib.hid hnX
  have HY := Lib.hid hnY
  have H := Lib.hid h
  have U := Lib.hid u
  clear h u hnX hnY hy TWh xf yf
  unfold pv
  go_enter Tryz.func114, Tryz.ntmps114
  go_wp2
  have x0' := cell_regrown x0
  have x1' := cell_regrown x1
  have x2' := cell_regrown x2
  have x3' := cell_regrown x3
  have y0' := cell_regrown y0
  have y1' := cell_regrown y1
  have y2' := cell_regrown y2
  have y3' := cell_regrown y3
  clear x0 x1 x2 x3 y0 y1 y2 y3
  refine wp_region_quiet_below (by kernel_rfl) (by kernel_rfl) ?_
  repeat (go_big_quiet_step ((go_at_call 131; exact Calls.regrown_of (YC.out _))))
  refine wpQuiet_nil ?_
  intro _ hw'
  obtain ⟨⟨dq, osq⟩, hw''⟩ := hw'
  subst hw''
  clear x0' x1' x2' x3' y0' y1' y2' y3' YC heq
  have BA := below_regrown w dq osq
  obtain ⟨wa, hwa⟩ : ∃ wa, wa = Sort.grow (redrawn w dq) osq := ⟨_, rfl⟩
  rw [← hwa] at BA ⊢
  clear hwa
  have HA := H.out.below BA
  obtain ⟨x0, x1, x2, x3, x6, x7, xf⟩ := node_cells HA.tw U.out.hX
  obtain ⟨y0, y1, y2, y3, y6, y7, yf⟩ := node_cells HA.tw U.out.hY
  rw [← HX.out] at x0 x1 x2 x3
  rw [← HY.out] at y0 y1 y2 y3
  have FA : Frm (S.Dp pb) B w wa := Frm.of_below (BA.mono H.out.tw.fit)
  have x6f := xf 6
  have HA := Lib.hid HA
  have FA := Lib.hid FA
  clear x7 y7 BA xf yf
  have hneq := fun W => run_neq_node nX nY W
  unfold Nd.val at hneq
  rw [decide_eq_true HN0.out] at hneq
  have t1 : (nY.kind == 32) = true := by simpa using HK.out
  have E : Hid (∀ m, Frm (S.Dp pb) B w (wa.drewN m)) := Lib.hid fun m => FA.out.trans (Frm.of_below ((below_drewN (Below.refl wa.heap.size wa) m).mono HA.out.tw.fit))
  go_wp2_with fail
  go_quiet (fail)
  go_wp2
  go_ret
  exact ⟨rfl, E.out _⟩
set_option maxHeartbeats 4000000 in
theorem unite_vv_nt (B pb : Nat) (S : SS) (tr : Nat → T) (bd : List Nat) (op : List (Nat × Nat)) (X Y : Nat) (w : World) (h : SV B pb w S bd op) (u : UP B pb S tr bd op X Y) (hy : yB (S.node X) (S.node Y) = false) (hkx : (S.node X).kind = 31) (hky : (S.node Y).kind = 31) (hwx : S.wi X = true) :
    Calls Tryz.prog 114 #[pv pb, pv X, pv Y] w (UT B pb S tr bd op X Y w) := by
  have TWh := h.tw
  obtain ⟨x0, x1, x2, x3, x6, x7, xf⟩ := node_cells TWh u.hX
  obtain ⟨y0, y1, y2, y3, y6, y7, yf⟩ := node_cells TWh u.hY
  have heq := eql_terms TWh u.hX u.hY
  rw [decide_eq_false u.ne] at heq
  have YC := fun W => yields_any (S.node X) (S.node Y) W
  clear x6 x7 y6 y7
  obtain ⟨nX, hnX⟩ : ∃ n, n = S.node X := ⟨_, rfl⟩
  obtain ⟨nY, hnY⟩ : ∃ n, n = S.node Y := ⟨_, rfl⟩
  rw [← hnX] at x0 x1 x2 x3
  rw [← hnY] at y0 y1 y2 y3
  rw [← hnX, ← hnY] at hy YC
  unfold Nd.val at YC
  rw [show YRet nX nY = (fun w e w' => e = .returned (.bool false) ∧ Below w.heap.size w w') by unfold YRet; rw [hy]] at YC
  have YC := Lib.hid YC
  rw [← hnX] at hkx
  rw [← hnY] at hky
  have HKX := Lib.hid hkx
  have HKY := Lib.hid hky
  have WX := Lib.hid hwx
  clear hkx hky hwx
  have HX := Lib.hid hnX
  have HY := Lib.hid hnY
  have H := Lib.hid h
  have U := Lib.hid u
  clear h u hnX hnY hy TWh xf yf
  unfold pv
  go_enter Tryz.func114, Tryz.ntmps114
  go_wp2
  have x0' := cell_regrown x0
  have x1' := cell_regrown x1
  have x2' := cell_regrown x2
  have x3' := cell_regrown x3
  have y0' := cell_regrown y0
  have y1' := cell_regrown y1
  have y2' := cell_regrown y2
  have y3' := cell_regrown y3
  clear x0 x1 x2 x3 y0 y1 y2 y3
  refine wp_region_quiet_below (by kernel_rfl) (by kernel_rfl) ?_
  repeat (go_big_quiet_step ((go_at_call 131; exact Calls.regrown_of (YC.out _))))
  refine wpQuiet_nil ?_
  intro _ hw'
  obtain ⟨⟨dq, osq⟩, hw''⟩ := hw'
  subst hw''
  clear x0' x1' x2' x3' y0' y1' y2' y3' YC heq
  have BA := below_regrown w dq osq
  obtain ⟨wa, hwa⟩ : ∃ wa, wa = Sort.grow (redrawn w dq) osq := ⟨_, rfl⟩
  rw [← hwa] at BA ⊢
  clear hwa
  have HA := H.out.below BA
  obtain ⟨x0, x1, x2, x3, x6, x7, xf⟩ := node_cells HA.tw U.out.hX
  obtain ⟨y0, y1, y2, y3, y6, y7, yf⟩ := node_cells HA.tw U.out.hY
  rw [← HX.out] at x0 x1 x2 x3
  rw [← HY.out] at y0 y1 y2 y3
  have FA : Frm (S.Dp pb) B w wa := Frm.of_below (BA.mono H.out.tw.fit)
  have x6f := xf 6
  have HA := Lib.hid HA
  have FA := Lib.hid FA
  clear x7 y7 BA xf yf
  have KY : Hid ((S.node Y).kind = 31) := Lib.hid (by rw [← HY.out]; exact HKY.out)
  have KX : Hid ((S.node X).kind = 31) := Lib.hid (by rw [← HX.out]; exact HKX.out)
  have t1 : (nY.kind == 32) = false := by simp [HKY.out]
  have t2 : (nX.kind == 31) = true := by simp [HKX.out]
  have t3 : (nY.kind == 31) = true := by simp [HKY.out]
  rw [WX.out] at x6
  obtain ⟨wy, hwy⟩ : ∃ wy, wy = S.wi Y := ⟨_, rfl⟩
  rw [← hwy] at y6
  have WY := Lib.hid hwy
  clear hwy
  go_upto_block 0 with fail
  go_cut [] from 23 to 97 (fun wx => Mid B pb S tr bd op X Y w wx)
  case first =>
    have E : Hid (∀ m, Mid B pb S tr bd op X Y w ((wa.drewN m).setCell ⟨X, 6, none⟩ (.bool true))) := Lib.hid fun m => by
      have bd' := below_drewN (Below.refl wa.heap.size wa) m
      have e1 : bdU (S.gr tr) S.wi bd X Y = bd := by unfold bdU; rw [if_neg]; intro h; exact h.1 KX.out
      unfold Mid
      rw [e1]
      have hb := (HA.out.below bd').tw.tell (X := X) U.out.hX true (wiU (S.gr tr) S.wi X Y) (by unfold wiU; rw [if_pos ⟨rfl, KX.out⟩, WX.out]; rfl) (fun z hz => by unfold wiU; rw [if_neg]; intro h; exact hz h.1)
      have nX := HA.out.not_term (x := X) U.out.hX
      refine ⟨(HA.out.below bd').terms hb fun j hj _ => Below.heap_setCell _ _ _ _ (nX j hj), (FA.out.trans (Frm.of_below (bd'.mono HA.out.tw.fit))).setCell (x := X) (i := 6) (.inl U.out.hX) _⟩
    go_wp2_with fail
    go_quiet (fail)
    go_wp2
    go_meet
    exact E.out _
  case rest =>
    obtain ⟨hv, hf⟩ := hcut
    have TM := hv.tw
    have kz : S.kids Y = [] := (U.out.ok.var Y U.out.hY KY.out).2.2
    obtain ⟨q, c, c4, hk, hq, hnc, hcm, fz⟩ := TM.root (x := Y) U.out.hY U.out.rY
    change wc.cell? ⟨Y, 4, none⟩ = some (.slice q (S.kids Y).length c) at c4
    rw [kz, List.length_nil] at c4
    have f5 := fz 5
    have f4 := fz 4
    have c5 : ∃ v, wc.cell? ⟨Y, 5, none⟩ = some v := by
      obtain ⟨y, ky⟩ := TM
      obtain ⟨kv, _, _, _, _, _, c5, _⟩ := ky.cells (x := Y) U.out.hY
      exact ⟨_, c5⟩
    obtain ⟨v5, c5⟩ := c5
    have c42 : (wc.setCell ⟨Y, 5, none⟩ (.pointer (some ⟨X, 0, none⟩))).cell? ⟨Y, 4, none⟩ = some (.slice q 0 c) := by
      rw [World.cell?_setCell_other _ _ _ _ (by simp)]; exact c4
    have E : Hid (UT B pb S tr bd op X Y w (.returned (.bool true)) ((wc.setCell ⟨Y, 5, none⟩ (.pointer (some ⟨X, 0, none⟩))).setCell ⟨Y, 4, none⟩ (.slice none 0 0))) := by
      have TG := TM.give (X := X) (Y := Y) U.out.hX U.out.hY U.out.rX U.out.rY U.out.ne
      have nY := hv.not_term (x := Y) U.out.hY
      refine ⟨rfl, ?_, (hf.setCell (x := Y) (i := 5) (.inl U.out.hY) _).setCell (x := Y) (i := 4) (.inl U.out.hY) _⟩
      rw [kz, List.zip_nil_left, List.append_nil]
      refine hv.terms TG fun j hj _ => ?_
      rw [Below.heap_setCell _ _ _ _ (nY j hj), Below.heap_setCell _ _ _ _ (nY j hj)]
    clear hv hf TM hk hq hnc hcm fz kz
    go_wp2
    go_loopw [89] (fun i wr => i = .int .i64 0 ∧ wr = wc) (fun i _ => 0)
    case atStart => exact ⟨rfl, rfl⟩
    case round =>
      obtain ⟨rfl, rfl⟩ := hrel
      go_wp2
      go_ret
      exact E.out
set_option maxHeartbeats 4000000 in
theorem unite_vv_nf (B pb : Nat) (S : SS) (tr : Nat → T) (bd : List Nat) (op : List (Nat × Nat)) (X Y : Nat) (w : World) (h : SV B pb w S bd op) (u : UP B pb S tr bd op X Y) (hy : yB (S.node X) (S.node Y) = false) (hkx : (S.node X).kind = 31) (hky : (S.node Y).kind = 31) (hwx : S.wi X = false) :
    Calls Tryz.prog 114 #[pv pb, pv X, pv Y] w (UT B pb S tr bd op X Y w) := by
  have TWh := h.tw
  obtain ⟨x0, x1, x2, x3, x6, x7, xf⟩ := node_cells TWh u.hX
  obtain ⟨y0, y1, y2, y3, y6, y7, yf⟩ := node_cells TWh u.hY
  have heq := eql_terms TWh u.hX u.hY
  rw [decide_eq_false u.ne] at heq
  have YC := fun W => yields_any (S.node X) (S.node Y) W
  clear x6 x7 y6 y7
  obtain ⟨nX, hnX⟩ : ∃ n, n = S.node X := ⟨_, rfl⟩
  obtain ⟨nY, hnY⟩ : ∃ n, n = S.node Y := ⟨_, rfl⟩
  rw [← hnX] at x0 x1 x2 x3
  rw [← hnY] at y0 y1 y2 y3
  rw [← hnX, ← hnY] at hy YC
  unfold Nd.val at YC
  rw [show YRet nX nY = (fun w e w' => e = .returned (.bool false) ∧ Below w.heap.size w w') by unfold YRet; rw [hy]] at YC
  have YC := Lib.hid YC
  rw [← hnX] at hkx
  rw [← hnY] at hky
  have HKX := Lib.hid hkx
  have HKY := Lib.hid hky
  have WX := Lib.hid hwx
  clear hkx hky hwx
  have HX := Lib.hid hnX
  have HY := Lib.hid hnY
  have H := Lib.hid h
  have U := Lib.hid u
  clear h u hnX hnY hy TWh xf yf
  unfold pv
  go_enter Tryz.func114, Tryz.ntmps114
  go_wp2
  have x0' := cell_regrown x0
  have x1' := cell_regrown x1
  have x2' := cell_regrown x2
  have x3' := cell_regrown x3
  have y0' := cell_regrown y0
  have y1' := cell_regrown y1
  have y2' := cell_regrown y2
  have y3' := cell_regrown y3
  clear x0 x1 x2 x3 y0 y1 y2 y3
  refine wp_region_quiet_below (by kernel_rfl) (by kernel_rfl) ?_
  repeat (go_big_quiet_step ((go_at_call 131; exact Calls.regrown_of (YC.out _))))
  refine wpQuiet_nil ?_
  intro _ hw'
  obtain ⟨⟨dq, osq⟩, hw''⟩ := hw'
  subst hw''
  clear x0' x1' x2' x3' y0' y1' y2' y3' YC heq
  have BA := below_regrown w dq osq
  obtain ⟨wa, hwa⟩ : ∃ wa, wa = Sort.grow (redrawn w dq) osq := ⟨_, rfl⟩
  rw [← hwa] at BA ⊢
  clear hwa
  have HA := H.out.below BA
  obtain ⟨x0, x1, x2, x3, x6, x7, xf⟩ := node_cells HA.tw U.out.hX
  obtain ⟨y0, y1, y2, y3, y6, y7, yf⟩ := node_cells HA.tw U.out.hY
  rw [← HX.out] at x0 x1 x2 x3
  rw [← HY.out] at y0 y1 y2 y3
  have FA : Frm (S.Dp pb) B w wa := Frm.of_below (BA.mono H.out.tw.fit)
  have x6f := xf 6
  have HA := Lib.hid HA
  have FA := Lib.hid FA
  clear x7 y7 BA xf yf
  have KY : Hid ((S.node Y).kind = 31) := Lib.hid (by rw [← HY.out]; exact HKY.out)
  have KX : Hid ((S.node X).kind = 31) := Lib.hid (by rw [← HX.out]; exact HKX.out)
  have t1 : (nY.kind == 32) = false := by simp [HKY.out]
  have t2 : (nX.kind == 31) = true := by simp [HKX.out]
  have t3 : (nY.kind == 31) = true := by simp [HKY.out]
  rw [WX.out] at x6
  obtain ⟨wy, hwy⟩ : ∃ wy, wy = S.wi Y := ⟨_, rfl⟩
  rw [← hwy] at y6
  have WY := Lib.hid hwy
  clear hwy
  go_upto_block 0 with fail
  go_cut [] from 23 to 97 (fun wx => Mid B pb S tr bd op X Y w wx)
  case first =>
    have E : Hid (∀ m, Mid B pb S tr bd op X Y w ((wa.drewN m).setCell ⟨X, 6, none⟩ (.bool wy))) := Lib.hid fun m => by
      have bd' := below_drewN (Below.refl wa.heap.size wa) m
      have e1 : bdU (S.gr tr) S.wi bd X Y = bd := by unfold bdU; rw [if_neg]; intro h; exact h.1 KX.out
      unfold Mid
      rw [e1]
      have hb := (HA.out.below bd').tw.tell (X := X) U.out.hX wy (wiU (S.gr tr) S.wi X Y) (by unfold wiU; rw [if_pos ⟨rfl, KX.out⟩, WX.out, WY.out]; rfl) (fun z hz => by unfold wiU; rw [if_neg]; intro h; exact hz h.1)
      have nX := HA.out.not_term (x := X) U.out.hX
      refine ⟨(HA.out.below bd').terms hb fun j hj _ => Below.heap_setCell _ _ _ _ (nX j hj), (FA.out.trans (Frm.of_below (bd'.mono HA.out.tw.fit))).setCell (x := X) (i := 6) (.inl U.out.hX) _⟩
    go_wp2_with fail
    go_quiet (fail)
    go_wp2
    go_meet
    exact E.out _
  case rest =>
    obtain ⟨hv, hf⟩ := hcut
    have TM := hv.tw
    have kz : S.kids Y = [] := (U.out.ok.var Y U.out.hY KY.out).2.2
    obtain ⟨q, c, c4, hk, hq, hnc, hcm, fz⟩ := TM.root (x := Y) U.out.hY U.out.rY
    change wc.cell? ⟨Y, 4, none⟩ = some (.slice q (S.kids Y).length c) at c4
    rw [kz, List.length_nil] at c4
    have f5 := fz 5
    have f4 := fz 4
    have c5 : ∃ v, wc.cell? ⟨Y, 5, none⟩ = some v := by
      obtain ⟨y, ky⟩ := TM
      obtain ⟨kv, _, _, _, _, _, c5, _⟩ := ky.cells (x := Y) U.out.hY
      exact ⟨_, c5⟩
    obtain ⟨v5, c5⟩ := c5
    have c42 : (wc.setCell ⟨Y, 5, none⟩ (.pointer (some ⟨X, 0, none⟩))).cell? ⟨Y, 4, none⟩ = some (.slice q 0 c) := by
      rw [World.cell?_setCell_other _ _ _ _ (by simp)]; exact c4
    have E : Hid (UT B pb S tr bd op X Y w (.returned (.bool true)) ((wc.setCell ⟨Y, 5, none⟩ (.pointer (some ⟨X, 0, none⟩))).setCell ⟨Y, 4, none⟩ (.slice none 0 0))) := by
      have TG := TM.give (X := X) (Y := Y) U.out.hX U.out.hY U.out.rX U.out.rY U.out.ne
      have nY := hv.not_term (x := Y) U.out.hY
      refine ⟨rfl, ?_, (hf.setCell (x := Y) (i := 5) (.inl U.out.hY) _).setCell (x := Y) (i := 4) (.inl U.out.hY) _⟩
      rw [kz, List.zip_nil_left, List.append_nil]
      refine hv.terms TG fun j hj _ => ?_
      rw [Below.heap_setCell _ _ _ _ (nY j hj), Below.heap_setCell _ _ _ _ (nY j hj)]
    clear hv hf TM hk hq hnc hcm fz kz
    go_wp2
    go_loopw [89] (fun i wr => i = .int .i64 0 ∧ wr = wc) (fun i _ => 0)
    case atStart => exact ⟨rfl, rfl⟩
    case round =>
      obtain ⟨rfl, rfl⟩ := hrel
      go_wp2
      go_ret
      exact E.out
set_option maxHeartbeats 4000000 in
theorem unite_vv_st (B pb : Nat) (S : SS) (tr : Nat → T) (bd : List Nat) (op : List (Nat × Nat)) (X Y : Nat) (w : World) (h : SV B pb w S bd op) (u : UP B pb S tr bd op X Y) (hy : yB (S.node Y) (S.node X) = true) (hkx : (S.node X).kind = 31) (hky : (S.node Y).kind = 31) (hwx : S.wi X = true) :
    Calls Tryz.prog 114 #[pv pb, pv Y, pv X] w (UT B pb S tr bd op X Y w) := by
  have TWh := h.tw
  obtain ⟨x0, x1, x2, x3, x6, x7, xf⟩ := node_cells TWh u.hX
  obtain ⟨y0, y1, y2, y3, y6, y7, yf⟩ := node_cells TWh u.hY
  have heq := eql_terms TWh u.hY u.hX
  rw [decide_eq_false (Ne.symm u.ne)] at heq
  have YC := fun W => yields_any (S.node Y) (S.node X) W
  clear x6 x7 y6 y7
  obtain ⟨nX, hnX⟩ : ∃ n, n = S.node X := ⟨_, rfl⟩
  obtain ⟨nY, hnY⟩ : ∃ n, n = S.node Y := ⟨_, rfl⟩
  rw [← hnX] at x0 x1 x2 x3
  rw [← hnY] at y0 y1 y2 y3
  rw [← hnY, ← hnX] at hy YC
  unfold Nd.val at YC
  rw [show YRet nY nX = (fun w e w' => e = .returned (.bool true) ∧ Below w.heap.size w w') by unfold YRet; rw [hy]] at YC
  have YC := Lib.hid YC
  rw [← hnX] at hkx
  rw [← hnY] at hky
  have HKX := Lib.hid hkx
  have HKY := Lib.hid hky
  have WX := Lib.hid hwx
  clear hkx hky hwx
  have HX := Lib.hid hnX
  have HY := Lib.hid hnY
  have H := Lib.hid h
  have U := Lib.hid u
  clear h u hnX hnY hy TWh xf yf
  unfold pv
  go_enter Tryz.func114, Tryz.ntmps114
  go_wp2
  have x0' := cell_regrown x0
  have x1' := cell_regrown x1
  have x2' := cell_regrown x2
  have x3' := cell_regrown x3
  have y0' := cell_regrown y0
  have y1' := cell_regrown y1
  have y2' := cell_regrown y2
  have y3' := cell_regrown y3
  clear x0 x1 x2 x3 y0 y1 y2 y3
  refine wp_region_quiet_below (by kernel_rfl) (by kernel_rfl) ?_
  repeat (go_big_quiet_step ((go_at_call 131; exact Calls.regrown_of (YC.out _))))
  refine wpQuiet_nil ?_
  intro _ hw'
  obtain ⟨⟨dq, osq⟩, hw''⟩ := hw'
  subst hw''
  clear x0' x1' x2' x3' y0' y1' y2' y3' YC heq
  have BA := below_regrown w dq osq
  obtain ⟨wa, hwa⟩ : ∃ wa, wa = Sort.grow (redrawn w dq) osq := ⟨_, rfl⟩
  rw [← hwa] at BA ⊢
  clear hwa
  have HA := H.out.below BA
  obtain ⟨x0, x1, x2, x3, x6, x7, xf⟩ := node_cells HA.tw U.out.hX
  obtain ⟨y0, y1, y2, y3, y6, y7, yf⟩ := node_cells HA.tw U.out.hY
  rw [← HX.out] at x0 x1 x2 x3
  rw [← HY.out] at y0 y1 y2 y3
  have FA : Frm (S.Dp pb) B w wa := Frm.of_below (BA.mono H.out.tw.fit)
  have x6f := xf 6
  have HA := Lib.hid HA
  have FA := Lib.hid FA
  clear x7 y7 BA xf yf
  have KY : Hid ((S.node Y).kind = 31) := Lib.hid (by rw [← HY.out]; exact HKY.out)
  have KX : Hid ((S.node X).kind = 31) := Lib.hid (by rw [← HX.out]; exact HKX.out)
  have t1 : (nY.kind == 32) = false := by simp [HKY.out]
  have t2 : (nX.kind == 31) = true := by simp [HKX.out]
  have t3 : (nY.kind == 31) = true := by simp [HKY.out]
  rw [WX.out] at x6
  obtain ⟨wy, hwy⟩ : ∃ wy, wy = S.wi Y := ⟨_, rfl⟩
  rw [← hwy] at y6
  have WY := Lib.hid hwy
  clear hwy
  go_upto_block 0 with fail
  go_cut [] from 23 to 97 (fun wx => Mid B pb S tr bd op X Y w wx)
  case first =>
    have E : Hid (∀ m, Mid B pb S tr bd op X Y w ((wa.drewN m).setCell ⟨X, 6, none⟩ (.bool true))) := Lib.hid fun m => by
      have bd' := below_drewN (Below.refl wa.heap.size wa) m
      have e1 : bdU (S.gr tr) S.wi bd X Y = bd := by unfold bdU; rw [if_neg]; intro h; exact h.1 KX.out
      unfold Mid
      rw [e1]
      have hb := (HA.out.below bd').tw.tell (X := X) U.out.hX true (wiU (S.gr tr) S.wi X Y) (by unfold wiU; rw [if_pos ⟨rfl, KX.out⟩, WX.out]; rfl) (fun z hz => by unfold wiU; rw [if_neg]; intro h; exact hz h.1)
      have nX := HA.out.not_term (x := X) U.out.hX
      refine ⟨(HA.out.below bd').terms hb fun j hj _ => Below.heap_setCell _ _ _ _ (nX j hj), (FA.out.trans (Frm.of_below (bd'.mono HA.out.tw.fit))).setCell (x := X) (i := 6) (.inl U.out.hX) _⟩
    go_wp2_with fail
    go_quiet (fail)
    go_wp2
    go_meet
    exact E.out _
  case rest =>
    obtain ⟨hv, hf⟩ := hcut
    have TM := hv.tw
    have kz : S.kids Y = [] := (U.out.ok.var Y U.out.hY KY.out).2.2
    obtain ⟨q, c, c4, hk, hq, hnc, hcm, fz⟩ := TM.root (x := Y) U.out.hY U.out.rY
    change wc.cell? ⟨Y, 4, none⟩ = some (.slice q (S.kids Y).length c) at c4
    rw [kz, List.length_nil] at c4
    have f5 := fz 5
    have f4 := fz 4
    have c5 : ∃ v, wc.cell? ⟨Y, 5, none⟩ = some v := by
      obtain ⟨y, ky⟩ := TM
      obtain ⟨kv, _, _, _, _, _, c5, _⟩ := ky.cells (x := Y) U.out.hY
      exact ⟨_, c5⟩
    obtain ⟨v5, c5⟩ := c5
    have c42 : (wc.setCell ⟨Y, 5, none⟩ (.pointer (some ⟨X, 0, none⟩))).cell? ⟨Y, 4, none⟩ = some (.slice q 0 c) := by
      rw [World.cell?_setCell_other _ _ _ _ (by simp)]; exact c4
    have E : Hid (UT B pb S tr bd op X Y w (.returned (.bool true)) ((wc.setCell ⟨Y, 5, none⟩ (.pointer (some ⟨X, 0, none⟩))).setCell ⟨Y, 4, none⟩ (.slice none 0 0))) := by
      have TG := TM.give (X := X) (Y := Y) U.out.hX U.out.hY U.out.rX U.out.rY U.out.ne
      have nY := hv.not_term (x := Y) U.out.hY
      refine ⟨rfl, ?_, (hf.setCell (x := Y) (i := 5) (.inl U.out.hY) _).setCell (x := Y) (i := 4) (.inl U.out.hY) _⟩
      rw [kz, List.zip_nil_left, List.append_nil]
      refine hv.terms TG fun j hj _ => ?_
      rw [Below.heap_setCell _ _ _ _ (nY j hj), Below.heap_setCell _ _ _ _ (nY j hj)]
    clear hv hf TM hk hq hnc hcm fz kz
    go_wp2
    go_loopw [89] (fun i wr => i = .int .i64 0 ∧ wr = wc) (fun i _ => 0)
    case atStart => exact ⟨rfl, rfl⟩
    case round =>
      obtain ⟨rfl, rfl⟩ := hrel
      go_wp2
      go_ret
      exact E.out
set_option maxHeartbeats 4000000 in
theorem unite_vv_sf (B pb : Nat) (S : SS) (tr : Nat → T) (bd : List Nat) (op : List (Nat × Nat)) (X Y : Nat) (w : World) (h : SV B pb w S bd op) (u : UP B pb S tr bd op X Y) (hy : yB (S.node Y) (S.node X) = true) (hkx : (S.node X).kind = 31) (hky : (S.node Y).kind = 31) (hwx : S.wi X = false) :
    Calls Tryz.prog 114 #[pv pb, pv Y, pv X] w (UT B pb S tr bd op X Y w) := by
  have TWh := h.tw
  obtain ⟨x0, x1, x2, x3, x6, x7, xf⟩ := node_cells TWh u.hX
  obtain ⟨y0, y1, y2, y3, y6, y7, yf⟩ := node_cells TWh u.hY
  have heq := eql_terms TWh u.hY u.hX
  rw [decide_eq_false (Ne.symm u.ne)] at heq
  have YC := fun W => yields_any (S.node Y) (S.node X) W
  clear x6 x7 y6 y7
  obtain ⟨nX, hnX⟩ : ∃ n, n = S.node X := ⟨_, rfl⟩
  obtain ⟨nY, hnY⟩ : ∃ n, n = S.node Y := ⟨_, rfl⟩
  rw [← hnX] at x0 x1 x2 x3
  rw [← hnY] at y0 y1 y2 y3
  rw [← hnY, ← hnX] at hy YC
  unfold Nd.val at YC
  rw [show YRet nY nX = (fun w e w' => e = .returned (.bool true) ∧ Below w.heap.size w w') by unfold YRet; rw [hy]] at YC
  have YC := Lib.hid YC
  rw [← hnX] at hkx
  rw [← hnY] at hky
  have HKX := Lib.hid hkx
  have HKY := Lib.hid hky
  have WX := Lib.hid hwx
  clear hkx hky hwx
  have HX := Lib.hid hnX
  have HY := Lib.hid hnY
  have H := Lib.hid h
  have U := Lib.hid u
  clear h u hnX hnY hy TWh xf yf
  unfold pv
  go_enter Tryz.func114, Tryz.ntmps114
  go_wp2
  have x0' := cell_regrown x0
  have x1' := cell_regrown x1
  have x2' := cell_regrown x2
  have x3' := cell_regrown x3
  have y0' := cell_regrown y0
  have y1' := cell_regrown y1
  have y2' := cell_regrown y2
  have y3' := cell_regrown y3
  clear x0 x1 x2 x3 y0 y1 y2 y3
  refine wp_region_quiet_below (by kernel_rfl) (by kernel_rfl) ?_
  repeat (go_big_quiet_step ((go_at_call 131; exact Calls.regrown_of (YC.out _))))
  refine wpQuiet_nil ?_
  intro _ hw'
  obtain ⟨⟨dq, osq⟩, hw''⟩ := hw'
  subst hw''
  clear x0' x1' x2' x3' y0' y1' y2' y3' YC heq
  have BA := below_regrown w dq osq
  obtain ⟨wa, hwa⟩ : ∃ wa, wa = Sort.grow (redrawn w dq) osq := ⟨_, rfl⟩
  rw [← hwa] at BA ⊢
  clear hwa
  have HA := H.out.below BA
  obtain ⟨x0, x1, x2, x3, x6, x7, xf⟩ := node_cells HA.tw U.out.hX
  obtain ⟨y0, y1, y2, y3, y6, y7, yf⟩ := node_cells HA.tw U.out.hY
  rw [← HX.out] at x0 x1 x2 x3
  rw [← HY.out] at y0 y1 y2 y3
  have FA : Frm (S.Dp pb) B w wa := Frm.of_below (BA.mono H.out.tw.fit)
  have x6f := xf 6
  have HA := Lib.hid HA
  have FA := Lib.hid FA
  clear x7 y7 BA xf yf
  have KY : Hid ((S.node Y).kind = 31) := Lib.hid (by rw [← HY.out]; exact HKY.out)
  have KX : Hid ((S.node X).kind = 31) := Lib.hid (by rw [← HX.out]; exact HKX.out)
  have t1 : (nY.kind == 32) = false := by simp [HKY.out]
  have t2 : (nX.kind == 31) = true := by simp [HKX.out]
  have t3 : (nY.kind == 31) = true := by simp [HKY.out]
  rw [WX.out] at x6
  obtain ⟨wy, hwy⟩ : ∃ wy, wy = S.wi Y := ⟨_, rfl⟩
  rw [← hwy] at y6
  have WY := Lib.hid hwy
  clear hwy
  go_upto_block 0 with fail
  go_cut [] from 23 to 97 (fun wx => Mid B pb S tr bd op X Y w wx)
  case first =>
    have E : Hid (∀ m, Mid B pb S tr bd op X Y w ((wa.drewN m).setCell ⟨X, 6, none⟩ (.bool wy))) := Lib.hid fun m => by
      have bd' := below_drewN (Below.refl wa.heap.size wa) m
      have e1 : bdU (S.gr tr) S.wi bd X Y = bd := by unfold bdU; rw [if_neg]; intro h; exact h.1 KX.out
      unfold Mid
      rw [e1]
      have hb := (HA.out.below bd').tw.tell (X := X) U.out.hX wy (wiU (S.gr tr) S.wi X Y) (by unfold wiU; rw [if_pos ⟨rfl, KX.out⟩, WX.out, WY.out]; rfl) (fun z hz => by unfold wiU; rw [if_neg]; intro h; exact hz h.1)
      have nX := HA.out.not_term (x := X) U.out.hX
      refine ⟨(HA.out.below bd').terms hb fun j hj _ => Below.heap_setCell _ _ _ _ (nX j hj), (FA.out.trans (Frm.of_below (bd'.mono HA.out.tw.fit))).setCell (x := X) (i := 6) (.inl U.out.hX) _⟩
    go_wp2_with fail
    go_quiet (fail)
    go_wp2
    go_meet
    exact E.out _
  case rest =>
    obtain ⟨hv, hf⟩ := hcut
    have TM := hv.tw
    have kz : S.kids Y = [] := (U.out.ok.var Y U.out.hY KY.out).2.2
    obtain ⟨q, c, c4, hk, hq, hnc, hcm, fz⟩ := TM.root (x := Y) U.out.hY U.out.rY
    change wc.cell? ⟨Y, 4, none⟩ = some (.slice q (S.kids Y).length c) at c4
    rw [kz, List.length_nil] at c4
    have f5 := fz 5
    have f4 := fz 4
    have c5 : ∃ v, wc.cell? ⟨Y, 5, none⟩ = some v := by
      obtain ⟨y, ky⟩ := TM
      obtain ⟨kv, _, _, _, _, _, c5, _⟩ := ky.cells (x := Y) U.out.hY
      exact ⟨_, c5⟩
    obtain ⟨v5, c5⟩ := c5
    have c42 : (wc.setCell ⟨Y, 5, none⟩ (.pointer (some ⟨X, 0, none⟩))).cell? ⟨Y, 4, none⟩ = some (.slice q 0 c) := by
      rw [World.cell?_setCell_other _ _ _ _ (by simp)]; exact c4
    have E : Hid (UT B pb S tr bd op X Y w (.returned (.bool true)) ((wc.setCell ⟨Y, 5, none⟩ (.pointer (some ⟨X, 0, none⟩))).setCell ⟨Y, 4, none⟩ (.slice none 0 0))) := by
      have TG := TM.give (X := X) (Y := Y) U.out.hX U.out.hY U.out.rX U.out.rY U.out.ne
      have nY := hv.not_term (x := Y) U.out.hY
      refine ⟨rfl, ?_, (hf.setCell (x := Y) (i := 5) (.inl U.out.hY) _).setCell (x := Y) (i := 4) (.inl U.out.hY) _⟩
      rw [kz, List.zip_nil_left, List.append_nil]
      refine hv.terms TG fun j hj _ => ?_
      rw [Below.heap_setCell _ _ _ _ (nY j hj), Below.heap_setCell _ _ _ _ (nY j hj)]
    clear hv hf TM hk hq hnc hcm fz kz
    go_wp2
    go_loopw [89] (fun i wr => i = .int .i64 0 ∧ wr = wc) (fun i _ => 0)
    case atStart => exact ⟨rfl, rfl⟩
    case round =>
      obtain ⟨rfl, rfl⟩ := hrel
      go_wp2
      go_ret
      exact E.out
end Go.Proofs.YtncifeeinogcnaaGreatDoor
