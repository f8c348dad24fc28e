/- Texts of this seat, one behind the other: DaI. -/
import Derived.Test.YtncifeeinogcnaaDoorKn17
import Derived.BigRegion
/- Two names alike. -/
set_option maxRecDepth 100000
namespace Go.Proofs.YtncifeeinogcnaaDoor
open Go.Shelf Go.RowKit Go.Lib Go.Sort Go.Maps Go.WideShapes Go.Proofs.TreeMath Go.Proofs.LexMath

structure RS (w : World) (done : List (Dt × Ct)) (W : World) : Prop where
  b0 : Below w.heap.size w W
  c1 : W.heap[w.heap.size + 2]? = some (Obj.cells #[.map (some w.heap.size)] 89 (0, 0))
  c2 : W.heap[w.heap.size + 3]? = some (Obj.cells #[.map (some (w.heap.size + 1))] 89 (0, 0))
  c3 : W.heap[w.heap.size + 4]? = some (Obj.cells #[.int .i64 done.length] 3 (0, 0))
  m1 : W.ownsMap Tryd.prog 9 (unitElem (H := Unit)) w.heap.size done.length (setS (done.map fun x => x.1.name))
  m2 : W.ownsMap Tryd.prog 9 (unitElem (H := Unit)) (w.heap.size + 1) done.length (setS (done.map fun x => x.2.name))
theorem upd_at {W : World} {D : DM} {n b : Nat} {s : ByteArray} (h : W.ownsMap Tryd.prog 9 (unitElem (H := Unit)) b n D) (hs : s.size ≤ 1000000) (hn : n ≤ 100000) : ∃ W1, (Instr.mapUpdate 89 (.map (some b)) (.string s) (.agg #[])).run Tryd.prog W = .ok () W1 ∧ W1.ownsMap Tryd.prog 9 (unitElem (H := Unit)) b (n + 1) (D.put (litS s) (.agg [])) ∧ W.grownBy W1 (some b) :=
  h.update law9s Tryd.underlying89 (by unfold maxLen; omega) (keyS s hs) unitElem_mk
theorem setm_ne {W : World} {D : DM} {n b k : Nat} {cs : Array Value} {T : TypeId} {p : Nat × Nat} (h : W.ownsMap Tryd.prog 9 (unitElem (H := Unit)) b n D) (hk : W.heap[k]? = some (Obj.cells cs T p)) : k ≠ b := by
  rintro rfl
  obtain ⟨es, clock, hb, _⟩ := h
  rw [hk] at hb
  simp at hb
theorem grown_cell {W W1 : World} {D : DM} {n b k : Nat} {cs : Array Value} {T : TypeId} {p : Nat × Nat} (h : W.ownsMap Tryd.prog 9 (unitElem (H := Unit)) b n D) (g : W.grownBy W1 (some b)) (hk : W.heap[k]? = some (Obj.cells cs T p)) : W1.heap[k]? = some (Obj.cells cs T p) := by
  have := setm_ne h hk
  exact (g.block k (Array.getElem?_eq_some_iff.1 hk).1 (by simp; omega)).trans hk
set_option maxHeartbeats 1000000 in
theorem rep1_any (w : World) (done : List (Dt × Ct)) (d : Dt) (c : Ct) (W : World) (hd : ∃ q k, d.cv = .slice q d.cons.length k) (hc : ∃ q k, c.av = .slice q c.args.length k) (hn1 : d.name.size ≤ 1000000) (hn2 : c.name.size ≤ 1000000) (h : RS w done W) (hl : done.length ≤ 99999) :
    Calls Tryd.prog 52 #[d.val, c.val, .pointer (some ⟨w.heap.size + 2, 0, none⟩), .pointer (some ⟨w.heap.size + 3, 0, none⟩), .pointer (some ⟨w.heap.size + 4, 0, none⟩)] W fun e W' => e = .returned (.bool false) ∧ RS w (done ++ [(d, c)]) W' ∧ KeepDC W W' := by
  obtain ⟨q, k, ed⟩ := hd
  obtain ⟨q2, k2, ec⟩ := hc
  obtain ⟨dn, dp, dv, dcs⟩ := d
  obtain ⟨cn, cav, cas⟩ := c
  simp only at ed ec hn1 hn2
  subst ed ec
  obtain ⟨m, hm⟩ : ∃ m, m = dcs.length := ⟨_, rfl⟩
  obtain ⟨m2, hm2⟩ : ∃ m2, m2 = cas.length := ⟨_, rfl⟩
  unfold Dt.val Ct.val
  simp only
  have O := Lib.hid (show RS w done ((W.alloc (.cells #[.string dn, .int .i64 dp, .slice q dcs.length k] 30)).alloc (.cells #[.string cn, .slice q2 cas.length k2] 33)) from by
    have hB := ((Below.refl W.heap.size W).alloc (Nat.le_refl _) (.cells #[.string dn, .int .i64 dp, .slice q dcs.length k] 30)).alloc (by simp) (.cells #[.string cn, .slice q2 cas.length k2] 33)
    exact ⟨h.b0.trans (hB.mono h.b0.size), (hB.block _ (Array.getElem?_eq_some_iff.1 h.c1).1).trans h.c1, (hB.block _ (Array.getElem?_eq_some_iff.1 h.c2).1).trans h.c2, (hB.block _ (Array.getElem?_eq_some_iff.1 h.c3).1).trans h.c3, (h.m1.alloc _).alloc _, (h.m2.alloc _).alloc _⟩)
  have Y1 : ((W.alloc (.cells #[.string dn, .int .i64 dp, .slice q dcs.length k] 30)).alloc (.cells #[.string cn, .slice q2 cas.length k2] 33)).heap[W.heap.size]? = some (Obj.cells #[.string dn, .int .i64 dp, .slice q dcs.length k] 30 (0, 0)) := (((Below.refl _ _).alloc (Nat.le_refl _) _).block _ (by simp)).trans (heap_alloc_new _ _)
  have Y2 : ((W.alloc (.cells #[.string dn, .int .i64 dp, .slice q dcs.length k] 30)).alloc (.cells #[.string cn, .slice q2 cas.length k2] 33)).heap[W.heap.size + 1]? = some (Obj.cells #[.string cn, .slice q2 cas.length k2] 33 (0, 0)) := by
    have := heap_alloc_new (W.alloc (.cells #[.string dn, .int .i64 dp, .slice q dcs.length k] 30)) (.cells #[.string cn, .slice q2 cas.length k2] 33)
    simpa using this
  obtain ⟨wB, hwB⟩ : ∃ wB, wB = (W.alloc (.cells #[.string dn, .int .i64 dp, .slice q dcs.length k] 30)).alloc (.cells #[.string cn, .slice q2 cas.length k2] 33) := ⟨_, rfl⟩
  rw [← hwB] at O Y1 Y2
  have BB : Below W.heap.size W wB := by rw [hwB]; exact ((Below.refl _ _).alloc (Nat.le_refl _) _).alloc (by simp) _
  obtain ⟨W1, r1, o1, g1⟩ := upd_at (s := dn) (show wB.drew.ownsMap Tryd.prog 9 unitElem w.heap.size _ _ from O.out.m1) hn1 (by omega)
  have n12 : W1.ownsMap Tryd.prog 9 (unitElem (H := Unit)) (w.heap.size + 1) done.length _ := (show wB.drew.ownsMap Tryd.prog 9 unitElem (w.heap.size + 1) _ _ from O.out.m2).kept g1 (by simp)
  obtain ⟨W3, r3, o3, g3⟩ := upd_at (s := cn) n12 hn2 (by omega)
  have z1 := Lib.cell_of_heap (show wB.heap[_]? = _ from O.out.c1) 0
  have z2 := Lib.cell_of_heap (show wB.heap[_]? = _ from O.out.c2) 0
  have z3 := Lib.cell_of_heap Y1 0
  have z4 := Lib.cell_of_heap Y2 0
  have M1 := (show wB.drew.ownsMap Tryd.prog 9 unitElem w.heap.size _ _ from O.out.m1)
  have a1 := Lib.cell_of_heap (grown_cell M1 g1 O.out.c1) 0
  have a2 := Lib.cell_of_heap (grown_cell M1 g1 O.out.c2) 0
  have a3 := Lib.cell_of_heap (grown_cell M1 g1 Y1) 0
  have a4 := Lib.cell_of_heap (grown_cell M1 g1 Y2) 0
  have e3 := Lib.cell_of_heap (grown_cell n12 g3 (grown_cell M1 g1 O.out.c3)) 0
  have f3 := Lib.frozen_of_heap (grown_cell n12 g3 (grown_cell M1 g1 O.out.c3)) 0
  have HW := Lib.hid hwB
  have G13 : Hid (∀ k cs T, wB.heap[k]? = some (Obj.cells cs T (0, 0)) → W3.heap[k]? = some (Obj.cells cs T (0, 0))) := Lib.hid fun k cs T h => grown_cell n12 g3 (grown_cell M1 g1 h)
  have F : Hid (RS w (done ++ [(⟨dn, dp, .slice q dcs.length k, dcs⟩, ⟨cn, .slice q2 cas.length k2, cas⟩)]) (W3.setCell ⟨w.heap.size + 4, 0, none⟩ (.int .i64 (done.length + 1))) ∧ KeepDC W (W3.setCell ⟨w.heap.size + 4, 0, none⟩ (.int .i64 (done.length + 1)))) := Lib.hid (by
    have c3' := G13.out _ _ _ O.out.c3
    have hne : w.heap.size + 4 < W3.heap.size := (Array.getElem?_eq_some_iff.1 c3').1
    have hz : w.heap.size ≤ wB.heap.size := O.out.b0.size
    have B3 : Below w.heap.size w (W3.setCell ⟨w.heap.size + 4, 0, none⟩ (.int .i64 (done.length + 1))) := by
      refine Below.setCell ?_ (by simp) _
      exact ((O.out.b0.drew).grown g1 hz fun k e => by simp at e; omega).grown g3 (Nat.le_trans hz g1.size) fun k e => by simp at e; omega
    have K : ∀ k cs T, k ≠ w.heap.size + 4 → wB.heap[k]? = some (Obj.cells cs T (0, 0)) → (W3.setCell ⟨w.heap.size + 4, 0, none⟩ (.int .i64 (done.length + 1))).heap[k]? = some (Obj.cells cs T (0, 0)) := fun k cs T hk h => by
      rw [heap_setCell_other _ _ _ _ hk]
      exact G13.out _ _ _ h
    refine ⟨⟨B3, K _ _ _ (by omega) O.out.c1, K _ _ _ (by omega) O.out.c2, ?_, ?_, ?_⟩, ?_⟩
    · rw [heap_setCell_same _ _ _ _ _ _ c3', List.length_append, List.length_singleton]
      simp
    · rw [List.length_append, List.length_singleton, List.map_append, List.map_cons, List.map_nil, setS_snoc]
      exact (o1.kept g3 (by simp)).setCell (by simp) _
    · rw [List.length_append, List.length_singleton, List.map_append, List.map_cons, List.map_nil, setS_snoc]
      exact o3.setCell (by simp) _
    · refine ⟨?_, fun k cs T hk hT => K k cs T ?_ ((BB.block k (Array.getElem?_eq_some_iff.1 hk).1).trans hk)⟩
      · have := B3.size
        have h1 := BB.size
        have h2 := g1.size
        have h3 := g3.size
        rw [World.size_setCell]
        exact Nat.le_trans h1 (Nat.le_trans h2 h3)
      · rintro rfl
        have := h.c3
        rw [hk] at this
        rcases hT with rfl | rfl <;> simp at this)
  clear hwB G13 g1 g3 o1 o3 n12 M1 h O BB hm hm2
  generalize RS w (done ++ [(⟨dn, dp, .slice q dcs.length k, dcs⟩, ⟨cn, .slice q2 cas.length k2, cas⟩)]) = Z1 at F ⊢
  generalize KeepDC W = Z2 at F ⊢
  go_enter Tryd.func52, Tryd.ntmps52
  go_wp2
  rw [← HW.out]
  go_region
  all_goals go_wp2
  all_goals (first | go_ret | skip)
  all_goals exact ⟨rfl, F.out.1, F.out.2⟩
/-- Two types, or two constructors, have one name. -/
def repD (ds : List Dt) : Bool := decide ((onceB ((pairsOf ds).map fun x => x.1.name)).length < ds.length) || decide ((onceB ((pairsOf ds).map fun x => x.2.name)).length < (pairsOf ds).length)
theorem findD_false (ds : List Dt) : ∀ k, findD (fun _ _ => false) ds k = none := by
  induction ds with
  | nil => intro k; rfl
  | cons d ds ih =>
    intro k
    unfold findD
    rw [show d.cons.findIdx? ((fun _ _ => false) d) = none by rw [List.findIdx?_eq_none_iff]; intro x _; rfl]
    exact ih _
theorem RS.alloc {w W : World} {done : List (Dt × Ct)} (h : RS w done W) (o : Obj) : RS w done (W.alloc o) := by
  have hB := (Below.refl W.heap.size W).alloc (Nat.le_refl _) o
  exact ⟨h.b0.trans (hB.mono h.b0.size), (hB.block _ (Array.getElem?_eq_some_iff.1 h.c1).1).trans h.c1, (hB.block _ (Array.getElem?_eq_some_iff.1 h.c2).1).trans h.c2, (hB.block _ (Array.getElem?_eq_some_iff.1 h.c3).1).trans h.c3, h.m1.alloc _, h.m2.alloc _⟩
theorem rs_start (w : World) : RS w [] (((((w.alloc (.map #[] 0)).alloc (.map #[] 0)).alloc (.cells #[.map (some w.heap.size)] 89)).alloc (.cells #[.map (some (w.heap.size + 1))] 89)).alloc (.cells #[.int .i64 0] 3)) := by
  have keep : ∀ (W : World) (o : Obj) (k : Nat) (x : Obj), W.heap[k]? = some x → (W.alloc o).heap[k]? = some x := fun W o k x h => (((Below.refl W.heap.size W).alloc (Nat.le_refl _) o).block k (Array.getElem?_eq_some_iff.1 h).1).trans h
  have e1 : (w.alloc (.map #[] 0)).heap.size = w.heap.size + 1 := by simp
  have e2 : ((w.alloc (.map #[] 0)).alloc (.map #[] 0)).heap.size = w.heap.size + 2 := by simp
  have e3 : (((w.alloc (.map #[] 0)).alloc (.map #[] 0)).alloc (.cells #[.map (some w.heap.size)] 89)).heap.size = w.heap.size + 3 := by simp
  have e4 : ((((w.alloc (.map #[] 0)).alloc (.map #[] 0)).alloc (.cells #[.map (some w.heap.size)] 89)).alloc (.cells #[.map (some (w.heap.size + 1))] 89)).heap.size = w.heap.size + 4 := by simp
  refine ⟨?_, ?_, ?_, ?_, ?_, ?_⟩
  · exact (((((Below.refl _ _).alloc (Nat.le_refl _) _).alloc (by omega) _).alloc (by omega) _).alloc (by omega) _).alloc (by omega) _
  · have := heap_alloc_new ((w.alloc (.map #[] 0)).alloc (.map #[] 0)) (.cells #[.map (some w.heap.size)] 89)
    rw [e2] at this
    exact keep _ _ _ _ (keep _ _ _ _ this)
  · have := heap_alloc_new (((w.alloc (.map #[] 0)).alloc (.map #[] 0)).alloc (.cells #[.map (some w.heap.size)] 89)) (.cells #[.map (some (w.heap.size + 1))] 89)
    rw [e3] at this
    exact keep _ _ _ _ this
  · have := heap_alloc_new ((((w.alloc (.map #[] 0)).alloc (.map #[] 0)).alloc (.cells #[.map (some w.heap.size)] 89)).alloc (.cells #[.map (some (w.heap.size + 1))] 89)) (.cells #[.int .i64 0] 3)
    rw [e4] at this
    exact this
  · exact ((((World.ownsMap_made w _ _ _).alloc _).alloc _).alloc _).alloc _
  · have := World.ownsMap_made (w.alloc (.map #[] 0)) Tryd.prog 9 (unitElem (H := Unit))
    rw [e1] at this
    exact ((this.alloc _).alloc _).alloc _
theorem pairs_len (ds : List Dt) (h : ∀ d ∈ ds, d.cons.length ≤ 60) : (pairsOf ds).length ≤ ds.length * 60 := by
  induction ds with
  | nil => simp [pairsOf]
  | cons d ds ih =>
    have := ih fun x hx => h x (List.mem_cons_of_mem _ hx)
    have h1 := h d (List.mem_cons_self ..)
    unfold pairsOf at this ⊢
    rw [List.flatMap_cons, List.length_append, List.length_map, List.length_cons]
    omega
set_option maxHeartbeats 1000000 in
theorem reps_any (lv : Value) (ds : List Dt) (w : World) (h : DtsAt w lv ds) (hn : ds.length ≤ 60) (hc6 : ∀ d ∈ ds, d.cons.length ≤ 60) (hs : ∀ d ∈ ds, d.name.size ≤ 1000000 ∧ ∀ c ∈ d.cons, c.name.size ≤ 1000000) : Calls Tryd.prog 37 #[lv] w (BRw (repD ds) w) := by
  have hmm := @run_makeMap Tryd.prog
  have R0 := rs_start w
  obtain ⟨w2, hw2⟩ : ∃ w2, w2 = (((((w.alloc (.map #[] 0)).alloc (.map #[] 0)).alloc (.cells #[.map (some w.heap.size)] 89)).alloc (.cells #[.map (some (w.heap.size + 1))] 89)).alloc (.cells #[.int .i64 0] 3)) := ⟨_, rfl⟩
  rw [← hw2] at R0
  have HW := Lib.hid hw2
  have hmax := pairs_len ds hc6
  have C := Lib.hid (search_gen lv ds 52 #[.pointer (some ⟨w.heap.size + 2, 0, none⟩), .pointer (some ⟨w.heap.size + 3, 0, none⟩), .pointer (some ⟨w.heap.size + 4, 0, none⟩)] (enters 52 _ Tryd.func52 (by kernel_rfl) (by kernel_rfl)) (fun _ _ => false) (RS w) w2 (by omega) (fun d hd => by have := hc6 d hd; omega) R0 (Lib.hid fun done W hJ => h.below hJ.b0) (Lib.hid fun done W o hJ => hJ.alloc o) (Lib.hid fun done d c W hd hc hp hJ => by
    have hl := hp.length_le
    rw [List.length_append, List.length_singleton] at hl
    have D := (h.below hJ.b0).2 d hd
    exact rep1_any w done d c W D.form (D.2 c hc).form (hs d hd).1 ((hs d hd).2 c hc) hJ (by omega)))
  have E : Hid (∀ y w', repD ds = y → Below w.heap.size w w' → BRw (repD ds) w (.returned (.bool y)) w') := Lib.hid fun y w' h b => ⟨by rw [h], b⟩
  obtain ⟨A, hA⟩ : ∃ A, A = (onceB ((pairsOf ds).map fun x => x.1.name)).length := ⟨_, rfl⟩
  obtain ⟨B, hB⟩ : ∃ B, B = (onceB ((pairsOf ds).map fun x => x.2.name)).length := ⟨_, rfl⟩
  obtain ⟨M, hM⟩ : ∃ M, M = (pairsOf ds).length := ⟨_, rfl⟩
  obtain ⟨lq, lc, rfl⟩ := h.form
  obtain ⟨n, hnn⟩ : ∃ n, n = ds.length := ⟨_, rfl⟩
  have R : Hid (repD ds = (decide (A < n) || decide (B < M))) := Lib.hid (by rw [hA, hB, hM, hnn]; rfl)
  have POST : Hid (∀ e w', SrP (fun _ _ => false) ds (RS w) e w' → e = .returned (.tuple #[.int .i64 0, .int .i64 0, .bool false]) ∧ w'.cell? ⟨w.heap.size + 2, 0, none⟩ = some (.map (some w.heap.size)) ∧ w'.cell? ⟨w.heap.size + 3, 0, none⟩ = some (.map (some (w.heap.size + 1))) ∧ w'.cell? ⟨w.heap.size + 4, 0, none⟩ = some (.int .i64 M) ∧
      (Builtin.len_ #[89] 3 #[.map (some w.heap.size)]).run Tryd.prog w' = .ok (.int .i64 A) w' ∧ (Builtin.len_ #[89] 3 #[.map (some (w.heap.size + 1))]).run Tryd.prog w' = .ok (.int .i64 B) w' ∧ Below w.heap.size w w') := Lib.hid (by
    rintro e w' ⟨done, hJ, ⟨i, j, hf, _⟩ | ⟨_, rfl, rfl⟩⟩
    · rw [findD_false] at hf; simp at hf
    · refine ⟨rfl, Lib.cell_of_heap hJ.c1 0, Lib.cell_of_heap hJ.c2 0, by rw [hM]; exact Lib.cell_of_heap hJ.c3 0, ?_, ?_, hJ.b0⟩
      · have := hJ.m1.len Tryd.underlying89 3
        rw [setS_size, ← hA] at this
        exact this
      · have := hJ.m2.len Tryd.underlying89 3
        rw [setS_size, ← hB] at this
        exact this)
  rw [← hnn] at C ⊢
  generalize BRw (repD ds) w = Z at E ⊢
  generalize SrP (fun _ _ => false) ds (RS w) = Z1 at C POST
  clear h hn hc6 hs hw2 R0 hmax hA hB hM hnn
  have go : ∀ y, (decide (A < n) || decide (B < M)) = y → ∀ w', Below w.heap.size w w' → Z (.returned (.bool y)) w' := fun y e w' b => E.out y w' (by rw [R.out, e]) b
  have GO := Lib.hid (fun w' b => go _ rfl w' b)
  clear go E R
  go_enter Tryd.func37, Tryd.ntmps37
  go_wp2_with fail
  rw [← HW.out]
  refine C.out.mono ?_
  intro e w3 h3
  obtain ⟨rfl, c1, c2, c3, l1, l2, b3⟩ := POST.out e w3 h3
  have F := Lib.hid (GO.out _ b3)
  clear b3 C h3 POST GO
  go_wp2
  all_goals (first | go_ret | skip)
  · exact F.out
  · have hh : A < n := by omega
    simpa [hh] using F.out
end Go.Proofs.YtncifeeinogcnaaDoor
