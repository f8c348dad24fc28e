/- Texts of this seat, one behind the other: DaF. -/
import Derived.Test.YtncifeeinogcnaaDoorKn13
/- The search through the constructors, for whatever question, that may write. -/
set_option maxRecDepth 100000
namespace Go.Proofs.YtncifeeinogcnaaDoor
open Go.Shelf Go.RowKit Go.Lib Go.Sort Go.Proofs.TreeMath Go.Proofs.LexMath

def pairsOf (ds : List Dt) : List (Dt × Ct) := ds.flatMap fun d => d.cons.map fun c => (d, c)
def findD (p : Dt → Ct → Bool) : List Dt → Nat → Option (Nat × Nat)
  | [], _ => none
  | d :: ds, i => match d.cons.findIdx? (p d) with
    | some j => some (i, j)
    | none => findD p ds (i + 1)
/-- All boxes of declarations and constructors are as they were. -/
def KeepDC (w w' : World) : Prop := w.heap.size ≤ w'.heap.size ∧ ∀ (k : Nat) (cs : Array Value) (T : TypeId), w.heap[k]? = some (Obj.cells cs T (0, 0)) → T = 30 ∨ T = 33 → w'.heap[k]? = some (Obj.cells cs T (0, 0))
theorem pairs_take (ds : List Dt) (i : Nat) (hi : i < ds.length) : pairsOf (ds.take (i + 1)) = pairsOf (ds.take i) ++ (ds.getD i default).cons.map fun c => (ds.getD i default, c) := by
  unfold pairsOf
  rw [List.take_succ_eq_append_getElem hi, List.flatMap_append, List.getD_eq_getElem?_getD, List.getElem?_eq_getElem hi]
  simp only [List.flatMap_cons, List.flatMap_nil, List.append_nil, Option.getD_some]
theorem drop_get {α : Type} [Inhabited α] (l : List α) (i : Nat) (hi : i < l.length) : l.drop i = l.getD i default :: l.drop (i + 1) := by
  rw [List.drop_eq_getElem_cons hi, List.getD_eq_getElem?_getD, List.getElem?_eq_getElem hi]; rfl
theorem findIdx_drop {α : Type} [Inhabited α] (p : α → Bool) (l : List α) (j : Nat) (hj : j < l.length) : (l.drop j).findIdx? p = if p (l.getD j default) = true then some 0 else ((l.drop (j + 1)).findIdx? p).map (· + 1) := by
  rw [drop_get l j hj, List.findIdx?_cons]
/-- What the search answers. -/
def SrP (p : Dt → Ct → Bool) (ds : List Dt) (J : List (Dt × Ct) → World → Prop) (e : Ending) (w' : World) : Prop :=
  ∃ done, J done w' ∧ ((∃ i j, findD p ds 0 = some (i, j) ∧ e = .returned (.tuple #[.int .i64 (i : Nat), .int .i64 (j : Nat), .bool true])) ∨ (findD p ds 0 = none ∧ done = pairsOf ds ∧ e = .returned (.tuple #[.int .i64 0, .int .i64 0, .bool false])))
set_option maxHeartbeats 1000000 in
theorem search_gen (lv : Value) (ds : List Dt) (g : Nat) (caps : Array Value) (hg : Hid (∀ vs w, (callFunc g vs).run Tryd.prog w = .ok (.enter g vs) w)) (p : Dt → Ct → Bool) (J : List (Dt × Ct) → World → Prop) (w : World) (hn : ds.length ≤ 1000000) (hc6 : ∀ d ∈ ds, d.cons.length ≤ 1000000) (h0 : J [] w)
    (hJd : Hid (∀ done W, J done W → DtsAt W lv ds)) (hJa : Hid (∀ done W o, J done W → J done (W.alloc o)))
    (hcall : Hid (∀ done (d : Dt) (c : Ct) W, d ∈ ds → c ∈ d.cons → done ++ [(d, c)] <+: pairsOf ds → J done W → Calls Tryd.prog g (#[d.val, c.val] ++ caps) W fun e W' => e = .returned (.bool (p d c)) ∧ J (done ++ [(d, c)]) W' ∧ KeepDC W W')) :
    Calls Tryd.prog 23 #[lv, .func (.func g) #[] caps] w (SrP p ds J) := by
  obtain ⟨lq, lc, rfl⟩ := (hJd.out _ _ h0).form
  have J0 := Lib.hid h0
  obtain ⟨n, hnn⟩ : ∃ n, n = ds.length := ⟨_, rfl⟩
  have HN := Lib.hid hnn
  have HC6 := Lib.hid hc6
  have E1 : Hid (∀ done i j w', J done w' → findD p ds 0 = some (i, j) → SrP p ds J (.returned (.tuple #[.int .i64 (i : Nat), .int .i64 (j : Nat), .bool true])) w') := Lib.hid fun done i j w' h1 h2 => ⟨done, h1, .inl ⟨i, j, h2, rfl⟩⟩
  have E2 : Hid (∀ w', J (pairsOf ds) w' → findD p ds 0 = none → SrP p ds J (.returned (.tuple #[.int .i64 0, .int .i64 0, .bool false])) w') := Lib.hid fun w' h1 h2 => ⟨_, h1, .inr ⟨h2, rfl, rfl⟩⟩
  rw [← hnn] at hn hJd ⊢
  generalize hZ : SrP p ds J = Z at *
  clear h0 hnn hc6 hZ
  go_enter Tryd.func23, Tryd.ntmps23
  go_wp2
  go_loopw [13] (fun s13 wr => ∃ i : Nat, i ≤ n ∧ s13 = .int .i64 i ∧ Hid (J (pairsOf (ds.take i)) wr) ∧ Hid (findD p ds 0 = findD p (ds.drop i) i)) (fun s13 _ => n - (intOf s13).toNat)
  case atStart => exact ⟨0, Nat.zero_le _, rfl, J0, Lib.hid rfl⟩
  case round =>
    obtain ⟨wo, hwo⟩ : ∃ wo : World, wo = wr := ⟨_, rfl⟩
    subst hwo
    obtain ⟨i, hi, rfl, hJ, hF⟩ := hrel
    clear J0
    by_cases hlt : i < n
    · have t0 : decide ((i : Int) < (n : Int)) = true := by simpa using hlt
      have D := hJd.out _ _ hJ.out
      obtain ⟨b, o, c, e, hb, c0, c1, c2⟩ := D.cell i (by rw [← HN.out]; exact hlt)
      simp only [Value.slice.injEq] at e
      obtain ⟨rfl, -, -⟩ := e
      have DM := Lib.hid (getD_mem ds i (by rw [← HN.out]; exact hlt))
      have CF := Lib.hid (D.2 _ DM.out)
      have PT := Lib.hid (pairs_take ds i (by rw [← HN.out]; exact hlt))
      have DG := Lib.hid (drop_get ds i (by rw [← HN.out]; exact hlt))
      obtain ⟨d, hd⟩ : ∃ d, d = ds.getD i default := ⟨_, rfl⟩
      rw [← hd] at c0 c1 c2 DM CF PT DG
      obtain ⟨lq2, lc2, ecv⟩ := CF.out.form
      obtain ⟨m, hm⟩ : ∃ m, m = d.cons.length := ⟨_, rfl⟩
      have hm6 : m ≤ 1000000 := by rw [hm]; exact HC6.out d DM.out
      rw [← hm] at ecv
      rw [ecv] at c2
      have HM := Lib.hid hm
      have ECV := Lib.hid ecv
      have XB : Hid (J (pairsOf (ds.take i)) (wo.alloc (.cells #[.string d.name, .int .i64 d.params, .slice lq2 m lc2] 30))) := Lib.hid (hJa.out _ _ _ hJ.out)
      have HX := heap_alloc_new wo (.cells #[.string d.name, .int .i64 d.params, .slice lq2 m lc2] 30)
      have HXH := Lib.hid HX
      have y2 := Lib.cell_of_heap HX 2
      simp only [List.getElem?_toArray, List.getElem?_cons_succ, List.getElem?_cons_zero] at y2
      obtain ⟨wb, hwb⟩ : ∃ wb, wb = wo.alloc (.cells #[.string d.name, .int .i64 d.params, .slice lq2 m lc2] 30) := ⟨_, rfl⟩
      have HWB := Lib.hid hwb
      have HX0 : Hid ((wo.alloc (.cells #[.string d.name, .int .i64 d.params, .slice lq2 m lc2] 30)).heap[wo.heap.size]? = some (.cells #[.string d.name, .int .i64 d.params, .slice lq2 m lc2] 30 (0, 0))) := Lib.hid HX
      clear D CF hd ecv hm HX hb HXH
      go_wp2
      rw [← HWB.out]
      have XB := XB.out
      rw [← hwb] at XB HX0
      have XBH := Lib.hid XB
      clear hwb XB
      go_loopw [21] (fun s21 wx => ∃ j : Nat, j ≤ m ∧ s21 = .int .i64 j ∧ Hid (J (pairsOf (ds.take i) ++ (d.cons.take j).map fun c => (d, c)) wx) ∧ Hid (d.cons.findIdx? (p d) = ((d.cons.drop j).findIdx? (p d)).map (· + j)) ∧ Hid (wx.heap[wo.heap.size]? = some (.cells #[.string d.name, .int .i64 d.params, .slice lq2 m lc2] 30 (0, 0)))) (fun s21 _ => m - (intOf s21).toNat)
      case atStart => exact ⟨0, Nat.zero_le _, rfl, Lib.hid (by simpa using XBH.out), Lib.hid (by simp), HX0⟩
      case round =>
        obtain ⟨wr2, hwr2⟩ : ∃ x : World, x = wr := ⟨_, rfl⟩
        subst hwr2
        obtain ⟨j, hj, rfl, hJ2, hF2, hX2⟩ := hrel
        clear XBH HX0
        by_cases hlt2 : j < m
        · have t1 : decide ((j : Int) < (m : Int)) = true := by simpa using hlt2
          have CC := (hJd.out _ _ hJ2.out).2 d DM.out
          obtain ⟨b2, o2, c2, e2, hb2, k0, k1⟩ := CC.cell j (by rw [← HM.out]; exact hlt2)
          rw [ECV.out] at e2
          simp only [Value.slice.injEq] at e2
          obtain ⟨rfl, -, -⟩ := e2
          have CM := Lib.hid (getD_mem d.cons j (by rw [← HM.out]; exact hlt2))
          have FI := Lib.hid (findIdx_drop (p d) d.cons j (by rw [← HM.out]; exact hlt2))
          have TK := Lib.hid (show d.cons.take (j + 1) = d.cons.take j ++ [d.cons.getD j default] by rw [List.take_succ_eq_append_getElem (by rw [← HM.out]; exact hlt2), List.getD_eq_getElem?_getD, List.getElem?_eq_getElem (by rw [← HM.out]; exact hlt2)]; rfl)
          obtain ⟨c, hc⟩ : ∃ c, c = d.cons.getD j default := ⟨_, rfl⟩
          rw [← hc] at k0 k1 CM FI TK
          obtain ⟨aq, ac, eav⟩ := (CC.2 c CM.out).form
          obtain ⟨ka, hka⟩ : ∃ ka, ka = c.args.length := ⟨_, rfl⟩
          rw [← hka] at eav
          have ECA := Lib.hid eav
          rw [eav] at k1
          have BC : Hid (Below wr2.heap.size wr2 (wr2.alloc (.cells #[.string c.name, .slice aq ka ac] 33))) := Lib.hid ((Below.refl _ _).alloc (Nat.le_refl _) _)
          have hlx : wo.heap.size < wr2.heap.size := (Array.getElem?_eq_some_iff.1 hX2.out).1
          have X3 := (BC.out.block wo.heap.size hlx).trans hX2.out
          have Y3 := heap_alloc_new wr2 (.cells #[.string c.name, .slice aq ka ac] 33)
          have a0 := Lib.cell_of_heap X3 0
          have a1 := Lib.cell_of_heap X3 1
          have a2 := Lib.cell_of_heap X3 2
          have e0 := Lib.cell_of_heap Y3 0
          have e1 := Lib.cell_of_heap Y3 1
          simp only [List.getElem?_toArray, List.getElem?_cons_succ, List.getElem?_cons_zero] at a0 a1 a2 e0 e1
          have X3H := Lib.hid X3
          have CALL := Lib.hid (hcall.out _ d c _ DM.out CM.out (by
            refine ⟨(d.cons.drop (j + 1)).map (fun c => (d, c)) ++ pairsOf (ds.drop (i + 1)), ?_⟩
            have e1 : pairsOf ds = pairsOf (ds.take (i + 1)) ++ pairsOf (ds.drop (i + 1)) := by unfold pairsOf; rw [← List.flatMap_append, List.take_append_drop]
            rw [e1, PT.out]
            have e2 : d.cons.map (fun c => (d, c)) = (d.cons.take (j + 1)).map (fun c => (d, c)) ++ (d.cons.drop (j + 1)).map (fun c => (d, c)) := by rw [← List.map_append, List.take_append_drop]
            rw [e2, TK.out, List.map_append]
            simp only [List.map_cons, List.map_nil, List.append_assoc]) (hJa.out _ _ (.cells #[.string c.name, .slice aq ka ac] 33) hJ2.out))
          have ECV2 := Lib.hid ECV.out
          clear CC hb2 hc X3 Y3 hJ2 hX2 eav hka
          cases hp : p d c with
          | true =>
            have E : Hid (findD p ds 0 = some (i, j)) := Lib.hid (by
              rw [hF.out, DG.out]
              have h1 := hF2.out
              rw [FI.out, if_pos hp] at h1
              have h2 : d.cons.findIdx? (p d) = some j := by simpa using h1
              simp only [findD, h2])
            rw [hp] at CALL
            have K := Lib.hid (fun done w' (h : J done w') => E1.out done i j w' h E.out)
            clear hF2 FI TK hF hJ E hp
            unfold Ct.val Dt.val at CALL
            rw [ECV2.out, ECA.out] at CALL
            go_wp2_with ((refine wpList_call_slot (o := ⟨some 29, _, _, _, _, _⟩) rfl 26 _ _ rfl g caps rfl hg.out (#[.agg #[.string d.name, .int .i64 d.params, .slice (some ⟨b2, o2, none⟩) m lc2], .agg #[.string c.name, .slice aq ka ac]] ++ caps) (by simp [go_sem]) ?_; refine (CALL.out).mono ?_; rintro e w3 ⟨rfl, h3, _⟩; refine ⟨_, rfl, ?_⟩; simp only [Act.put, List.setIfInBounds_toArray, List.set_cons_succ, List.set_cons_zero]))
            have F := Lib.hid (K.out _ _ h3)
            clear h3 CALL K
            go_wp2
            go_ret3
            exact F.out
          | false =>
            rw [hp] at CALL
            have NF : Hid (d.cons.findIdx? (p d) = ((d.cons.drop (j + 1)).findIdx? (p d)).map (· + (j + 1))) := Lib.hid (by
              rw [hF2.out, FI.out, if_neg (by rw [hp]; decide), Option.map_map]
              congr 1
              funext x
              show x + 1 + j = x + (j + 1)
              omega)
            have NJ : Hid (∀ W, J (pairsOf (ds.take i) ++ (d.cons.take j).map (fun c => (d, c)) ++ [(d, c)]) W → J (pairsOf (ds.take i) ++ (d.cons.take (j + 1)).map fun c => (d, c)) W) := Lib.hid fun W h => by
              rw [TK.out, List.map_append, ← List.append_assoc]; exact h
            have KX : Hid (∀ w3, KeepDC (wr2.alloc (.cells #[.string c.name, .slice aq ka ac] 33)) w3 → w3.heap[wo.heap.size]? = some (.cells #[.string d.name, .int .i64 d.params, .slice (some ⟨b2, o2, none⟩) m lc2] 30 (0, 0))) := Lib.hid fun w3 h => h.2 _ _ _ X3H.out (.inl rfl)
            unfold Ct.val Dt.val at CALL
            rw [ECV2.out, ECA.out] at CALL
            clear hF2 FI TK hp
            go_wp2_with ((refine wpList_call_slot (o := ⟨some 29, _, _, _, _, _⟩) rfl 26 _ _ rfl g caps rfl hg.out (#[.agg #[.string d.name, .int .i64 d.params, .slice (some ⟨b2, o2, none⟩) m lc2], .agg #[.string c.name, .slice aq ka ac]] ++ caps) (by simp [go_sem]) ?_; refine (CALL.out).mono ?_; rintro e w3 ⟨rfl, h3, k3⟩; refine ⟨_, rfl, ?_⟩; simp only [Act.put, List.setIfInBounds_toArray, List.set_cons_succ, List.set_cons_zero]))
            have J3 := Lib.hid (NJ.out _ h3)
            have X4 := Lib.hid (KX.out _ k3)
            clear h3 k3 CALL NJ KX
            go_wp2
            go_roundw
            case rel => exact ⟨j + 1, by omega, by go_num, J3, NF, X4⟩
            case measure => simp [intOf]; omega
        · obtain rfl : j = m := by omega
          have t1 : decide ((j : Int) < (j : Int)) = false := by simp
          have NJ : Hid (J (pairsOf (ds.take (i + 1))) wr2) := Lib.hid (by rw [PT.out]; have := hJ2.out; rw [HM.out, List.take_length] at this; exact this)
          have NF : Hid (findD p ds 0 = findD p (ds.drop (i + 1)) (i + 1)) := Lib.hid (by
            rw [hF.out, DG.out]
            have h1 := hF2.out
            rw [HM.out, List.drop_length] at h1
            have h2 : d.cons.findIdx? (p d) = none := h1
            simp only [findD, h2])
          clear hJ2 hF2 hX2 hF hJ
          go_wp2
          go_roundw
          case rel => exact ⟨i + 1, by omega, by go_num, NJ, NF⟩
          case measure => simp [intOf]; omega
    · obtain rfl : i = n := by omega
      have t0 : decide ((i : Int) < (i : Int)) = false := by simp
      have F := Lib.hid (E2.out wo (by have := hJ.out; rw [HN.out, List.take_length] at this; exact this) (by rw [hF.out, HN.out, List.drop_length]; rfl))
      clear hJ hF
      go_wp2
      go_ret3
      exact F.out
end Go.Proofs.YtncifeeinogcnaaDoor
