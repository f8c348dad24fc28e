/- Texts of this seat, one behind the other: DaB. -/
import Derived.Test.YtncifeeinogcnaaDoorKn10
/- slices.ContainsFunc over nodes, constructors, declarations: for whatever question. -/
set_option maxRecDepth 100000
namespace Go.Proofs.YtncifeeinogcnaaDoor
open Go.Shelf Go.RowKit Go.Lib Go.Sort Go.Proofs.TreeMath

theorem idxG_any (g : Nat) (caps : Array Value) (hg : Hid (∀ vs w, (callFunc g vs).run Tryd.prog w = .ok (.enter g vs) w)) (v : Value) (xs : List Nd) (n : Nat) (p : Nat → Bool) (w : World) (h : NodesAt w v xs) (hn : n = xs.length)
    (hp : Hid (∀ j, j < n → ∀ W, Below w.heap.size w W → Calls Tryd.prog g (#[(xs.getD j default).val] ++ caps) W fun e w' => e = .returned (.bool (p j)) ∧ Below W.heap.size W w')) :
    Calls Tryd.prog 43 #[v, .func (.func g) #[] caps] w fun e w' => (∃ r : Int, e = .returned (.int .i64 r) ∧ decide (0 ≤ r) = (List.range n).any p) ∧ Below w.heap.size w w' := by
  subst hn
  obtain ⟨hvl, q, c, rfl, hnc, hm, h4⟩ := h
  obtain ⟨n, hn⟩ : ∃ n, n = xs.length := ⟨_, rfl⟩
  have HN := Lib.hid hn
  rw [← hn] at hvl hnc h4 hp ⊢
  clear hn
  have CELL := Lib.hid h4
  have HVL := Lib.hid hvl
  have hmx : n ≤ 9223372036854775807 := by unfold maxLen at hm; omega
  have HW : Hid ((.func (.func g) #[] caps : Value) = .func (.func g) #[] caps) := Lib.hid rfl
  clear h4 hvl
  go_enter Tryd.func43, Tryd.ntmps43
  go_wp2
  go_loopw [8] (fun i wr => ∃ j : Nat, j ≤ n ∧ i = .int .i64 j ∧ Hid ((List.range j).any p = false) ∧ Hid (Below w.heap.size w wr)) (fun i _ => n - (intOf i).toNat)
  case atStart => exact ⟨0, Nat.zero_le _, rfl, Lib.hid rfl, Lib.hid (Below.refl _ _)⟩
  case round =>
    obtain ⟨j, hj, rfl, hF, hB⟩ := hrel
    by_cases hlt : j < n
    · have t0 : decide ((j : Int) < (n : Int)) = true := by simpa using hlt
      obtain ⟨b, o, rfl, hb, hc⟩ := CELL.out (by omega)
      obtain ⟨c0, c1, c2, c3⟩ := CellsIn.node (hc.kept (hB.out.block b hb)) j (by rw [← HN.out]; exact hlt)
      obtain ⟨x, hx⟩ : ∃ x, x = xs.getD j default := ⟨_, rfl⟩
      have CALL := Lib.hid (hp.out j hlt wr hB.out)
      have NXT := Lib.hid (any_range_succ p j)
      have FULL : Hid (p j = true → (List.range n).any p = true) := Lib.hid fun h => List.any_eq_true.2 ⟨j, List.mem_range.2 hlt, h⟩
      rw [← hx] at c0 c1 c2 c3 CALL
      clear hb hc hx
      obtain ⟨nk, nt, nn, nc⟩ := x
      unfold Nd.val at CALL
      simp only at c0 c1 c2 c3 CALL
      cases hpj : p j with
      | true =>
        rw [hpj] at CALL
        have FT := Lib.hid (FULL.out hpj)
        clear hpj FULL NXT hF
        go_wp2_with ((refine wpList_call_slot (o := ⟨some 16, _, _, _, _, _⟩) rfl 11 _ _ rfl g caps rfl hg.out (#[.agg #[.int .i64 nk, .string nt, .int .i64 nn, .int .i64 nc]] ++ caps) (by simp [go_sem]) ?_; refine (CALL.out).mono ?_; rintro e w1 ⟨rfl, b1⟩; refine ⟨_, rfl, ?_⟩; simp only [Act.put, List.setIfInBounds_toArray, List.set_cons_succ, List.set_cons_zero]))
        have B1 := Lib.hid (hB.out.trans (b1.mono hB.out.size))
        clear b1
        go_wp2
        first | go_ret | skip
        exact ⟨⟨_, rfl, by rw [FT.out]; exact decide_eq_true (by omega)⟩, B1.out⟩
      | false =>
        rw [hpj] at CALL
        have NF : Hid ((List.range (j + 1)).any p = false) := Lib.hid (by rw [NXT.out, hF.out, hpj]; rfl)
        clear hpj FULL NXT hF
        go_wp2_with ((refine wpList_call_slot (o := ⟨some 16, _, _, _, _, _⟩) rfl 11 _ _ rfl g caps rfl hg.out (#[.agg #[.int .i64 nk, .string nt, .int .i64 nn, .int .i64 nc]] ++ caps) (by simp [go_sem]) ?_; refine (CALL.out).mono ?_; rintro e w1 ⟨rfl, b1⟩; refine ⟨_, rfl, ?_⟩; simp only [Act.put, List.setIfInBounds_toArray, List.set_cons_succ, List.set_cons_zero]))
        have B1 := Lib.hid (hB.out.trans (b1.mono hB.out.size))
        clear b1
        go_wp2
        go_roundw
        case rel => exact ⟨j + 1, by omega, by go_num, NF, B1⟩
        case measure => simp [intOf]; omega
    · obtain rfl : j = n := by omega
      have t0 : decide ((j : Int) < (j : Int)) = false := by simp
      clear CELL
      go_wp2
      first | go_ret | skip
      exact ⟨⟨-1, rfl, by rw [hF.out]; rfl⟩, hB.out⟩
theorem containsG_any (g : Nat) (caps : Array Value) (hg : Hid (∀ vs w, (callFunc g vs).run Tryd.prog w = .ok (.enter g vs) w)) (v : Value) (xs : List Nd) (n : Nat) (p : Nat → Bool) (w : World) (h : NodesAt w v xs) (hn : n = xs.length)
    (hp : Hid (∀ j, j < n → ∀ W, Below w.heap.size w W → Calls Tryd.prog g (#[(xs.getD j default).val] ++ caps) W fun e w' => e = .returned (.bool (p j)) ∧ Below W.heap.size W w')) :
    Calls Tryd.prog 29 #[v, .func (.func g) #[] caps] w (BRw ((List.range n).any p) w) := by
  have C := Lib.hid (idxG_any g caps hg v xs n p w h hn hp)
  have E : Hid (∀ b w', b = (List.range n).any p → Below w.heap.size w w' → BRw ((List.range n).any p) w (.returned (.bool b)) w') := Lib.hid fun b w' e h => ⟨by rw [e], h⟩
  generalize BRw ((List.range n).any p) w = Z at *
  clear h hp hn
  go_enter Tryd.func29, Tryd.ntmps29
  go_wp2_with fail
  refine C.out.mono ?_
  rintro e w1 ⟨⟨r, rfl, hr⟩, b1⟩
  have F := Lib.hid (E.out _ _ hr b1)
  clear b1 hr C
  go_wp2
  first | go_ret | skip
  exact F.out
theorem idxC_any (g : Nat) (caps : Array Value) (hg : Hid (∀ vs w, (callFunc g vs).run Tryd.prog w = .ok (.enter g vs) w)) (v : Value) (xs : List Ct) (n : Nat) (p : Nat → Bool) (w : World) (h : SliceAt w 2 v xs.length (xs.flatMap Ct.cells)) (hn : n = xs.length)
    (hp : Hid (∀ j, j < n → ∀ W, Below w.heap.size w W → Calls Tryd.prog g (#[(xs.getD j default).val] ++ caps) W fun e w' => e = .returned (.bool (p j)) ∧ Below W.heap.size W w')) :
    Calls Tryd.prog 66 #[v, .func (.func g) #[] caps] w fun e w' => (∃ r : Int, e = .returned (.int .i64 r) ∧ decide (0 ≤ r) = (List.range n).any p) ∧ Below w.heap.size w w' := by
  subst hn
  obtain ⟨hvl, q, c, rfl, hnc, hm, h4⟩ := h
  obtain ⟨n, hn⟩ : ∃ n, n = xs.length := ⟨_, rfl⟩
  have HN := Lib.hid hn
  rw [← hn] at hvl hnc h4 hp ⊢
  clear hn
  have CELL := Lib.hid h4
  have HVL := Lib.hid hvl
  have hmx : n ≤ 9223372036854775807 := by unfold maxLen at hm; omega
  have HW : Hid ((.func (.func g) #[] caps : Value) = .func (.func g) #[] caps) := Lib.hid rfl
  clear h4 hvl
  go_enter Tryd.func66, Tryd.ntmps66
  go_wp2
  go_loopw [8] (fun i wr => ∃ j : Nat, j ≤ n ∧ i = .int .i64 j ∧ Hid ((List.range j).any p = false) ∧ Hid (Below w.heap.size w wr)) (fun i _ => n - (intOf i).toNat)
  case atStart => exact ⟨0, Nat.zero_le _, rfl, Lib.hid rfl, Lib.hid (Below.refl _ _)⟩
  case round =>
    obtain ⟨j, hj, rfl, hF, hB⟩ := hrel
    by_cases hlt : j < n
    · have t0 : decide ((j : Int) < (n : Int)) = true := by simpa using hlt
      obtain ⟨b, o, rfl, hb, hc⟩ := CELL.out (by omega)
      have c0 := (hc.kept (hB.out.block b hb)) _ _ (flat_get Ct.cells 2 (fun _ => rfl) xs j (by rw [← HN.out]; exact hlt) 0 (by omega))
      have c1 := (hc.kept (hB.out.block b hb)) _ _ (flat_get Ct.cells 2 (fun _ => rfl) xs j (by rw [← HN.out]; exact hlt) 1 (by omega))
      rw [Nat.add_zero] at c0
      rw [← Nat.add_assoc] at c1
      obtain ⟨x, hx⟩ : ∃ x, x = xs.getD j default := ⟨_, rfl⟩
      have CALL := Lib.hid (hp.out j hlt wr hB.out)
      have NXT := Lib.hid (any_range_succ p j)
      have FULL : Hid (p j = true → (List.range n).any p = true) := Lib.hid fun h => List.any_eq_true.2 ⟨j, List.mem_range.2 hlt, h⟩
      rw [← hx] at c0 c1 CALL
      clear hb hc hx
      obtain ⟨cn, cav, cas⟩ := x
      unfold Ct.val at CALL
      simp only at c0 c1 CALL
      cases hpj : p j with
      | true =>
        rw [hpj] at CALL
        have FT := Lib.hid (FULL.out hpj)
        clear hpj FULL NXT hF
        go_wp2_with ((refine wpList_call_slot (o := ⟨some 16, _, _, _, _, _⟩) rfl 11 _ _ rfl g caps rfl hg.out (#[.agg #[.string cn, cav]] ++ caps) (by simp [go_sem]) ?_; refine (CALL.out).mono ?_; rintro e w1 ⟨rfl, b1⟩; refine ⟨_, rfl, ?_⟩; simp only [Act.put, List.setIfInBounds_toArray, List.set_cons_succ, List.set_cons_zero]))
        have B1 := Lib.hid (hB.out.trans (b1.mono hB.out.size))
        clear b1
        go_wp2
        first | go_ret | skip
        exact ⟨⟨_, rfl, by rw [FT.out]; exact decide_eq_true (by omega)⟩, B1.out⟩
      | false =>
        rw [hpj] at CALL
        have NF : Hid ((List.range (j + 1)).any p = false) := Lib.hid (by rw [NXT.out, hF.out, hpj]; rfl)
        clear hpj FULL NXT hF
        go_wp2_with ((refine wpList_call_slot (o := ⟨some 16, _, _, _, _, _⟩) rfl 11 _ _ rfl g caps rfl hg.out (#[.agg #[.string cn, cav]] ++ caps) (by simp [go_sem]) ?_; refine (CALL.out).mono ?_; rintro e w1 ⟨rfl, b1⟩; refine ⟨_, rfl, ?_⟩; simp only [Act.put, List.setIfInBounds_toArray, List.set_cons_succ, List.set_cons_zero]))
        have B1 := Lib.hid (hB.out.trans (b1.mono hB.out.size))
        clear b1
        go_wp2
        go_roundw
        case rel => exact ⟨j + 1, by omega, by go_num, NF, B1⟩
        case measure => simp [intOf]; omega
    · obtain rfl : j = n := by omega
      have t0 : decide ((j : Int) < (j : Int)) = false := by simp
      clear CELL
      go_wp2
      first | go_ret | skip
      exact ⟨⟨-1, rfl, by rw [hF.out]; rfl⟩, hB.out⟩
theorem containsC_any (g : Nat) (caps : Array Value) (hg : Hid (∀ vs w, (callFunc g vs).run Tryd.prog w = .ok (.enter g vs) w)) (v : Value) (xs : List Ct) (n : Nat) (p : Nat → Bool) (w : World) (h : SliceAt w 2 v xs.length (xs.flatMap Ct.cells)) (hn : n = xs.length)
    (hp : Hid (∀ j, j < n → ∀ W, Below w.heap.size w W → Calls Tryd.prog g (#[(xs.getD j default).val] ++ caps) W fun e w' => e = .returned (.bool (p j)) ∧ Below W.heap.size W w')) :
    Calls Tryd.prog 50 #[v, .func (.func g) #[] caps] w (BRw ((List.range n).any p) w) := by
  have C := Lib.hid (idxC_any g caps hg v xs n p w h hn hp)
  have E : Hid (∀ b w', b = (List.range n).any p → Below w.heap.size w w' → BRw ((List.range n).any p) w (.returned (.bool b)) w') := Lib.hid fun b w' e h => ⟨by rw [e], h⟩
  generalize BRw ((List.range n).any p) w = Z at *
  clear h hp hn
  go_enter Tryd.func50, Tryd.ntmps50
  go_wp2_with fail
  refine C.out.mono ?_
  rintro e w1 ⟨⟨r, rfl, hr⟩, b1⟩
  have F := Lib.hid (E.out _ _ hr b1)
  clear b1 hr C
  go_wp2
  first | go_ret | skip
  exact F.out
theorem idxD_any (g : Nat) (caps : Array Value) (hg : Hid (∀ vs w, (callFunc g vs).run Tryd.prog w = .ok (.enter g vs) w)) (v : Value) (xs : List Dt) (n : Nat) (p : Nat → Bool) (w : World) (h : SliceAt w 3 v xs.length (xs.flatMap Dt.cells)) (hn : n = xs.length)
    (hp : Hid (∀ j, j < n → ∀ W, Below w.heap.size w W → Calls Tryd.prog g (#[(xs.getD j default).val] ++ caps) W fun e w' => e = .returned (.bool (p j)) ∧ Below W.heap.size W w')) :
    Calls Tryd.prog 51 #[v, .func (.func g) #[] caps] w fun e w' => (∃ r : Int, e = .returned (.int .i64 r) ∧ decide (0 ≤ r) = (List.range n).any p) ∧ Below w.heap.size w w' := by
  subst hn
  obtain ⟨hvl, q, c, rfl, hnc, hm, h4⟩ := h
  obtain ⟨n, hn⟩ : ∃ n, n = xs.length := ⟨_, rfl⟩
  have HN := Lib.hid hn
  rw [← hn] at hvl hnc h4 hp ⊢
  clear hn
  have CELL := Lib.hid h4
  have HVL := Lib.hid hvl
  have hmx : n ≤ 9223372036854775807 := by unfold maxLen at hm; omega
  have HW : Hid ((.func (.func g) #[] caps : Value) = .func (.func g) #[] caps) := Lib.hid rfl
  clear h4 hvl
  go_enter Tryd.func51, Tryd.ntmps51
  go_wp2
  go_loopw [8] (fun i wr => ∃ j : Nat, j ≤ n ∧ i = .int .i64 j ∧ Hid ((List.range j).any p = false) ∧ Hid (Below w.heap.size w wr)) (fun i _ => n - (intOf i).toNat)
  case atStart => exact ⟨0, Nat.zero_le _, rfl, Lib.hid rfl, Lib.hid (Below.refl _ _)⟩
  case round =>
    obtain ⟨j, hj, rfl, hF, hB⟩ := hrel
    by_cases hlt : j < n
    · have t0 : decide ((j : Int) < (n : Int)) = true := by simpa using hlt
      obtain ⟨b, o, rfl, hb, hc⟩ := CELL.out (by omega)
      have c0 := (hc.kept (hB.out.block b hb)) _ _ (flat_get Dt.cells 3 (fun _ => rfl) xs j (by rw [← HN.out]; exact hlt) 0 (by omega))
      have c1 := (hc.kept (hB.out.block b hb)) _ _ (flat_get Dt.cells 3 (fun _ => rfl) xs j (by rw [← HN.out]; exact hlt) 1 (by omega))
      have c2 := (hc.kept (hB.out.block b hb)) _ _ (flat_get Dt.cells 3 (fun _ => rfl) xs j (by rw [← HN.out]; exact hlt) 2 (by omega))
      rw [Nat.add_zero] at c0
      rw [← Nat.add_assoc] at c1 c2
      obtain ⟨x, hx⟩ : ∃ x, x = xs.getD j default := ⟨_, rfl⟩
      have CALL := Lib.hid (hp.out j hlt wr hB.out)
      have NXT := Lib.hid (any_range_succ p j)
      have FULL : Hid (p j = true → (List.range n).any p = true) := Lib.hid fun h => List.any_eq_true.2 ⟨j, List.mem_range.2 hlt, h⟩
      rw [← hx] at c0 c1 c2 CALL
      clear hb hc hx
      obtain ⟨dn, dp, dv, dc⟩ := x
      unfold Dt.val at CALL
      simp only at c0 c1 c2 CALL
      cases hpj : p j with
      | true =>
        rw [hpj] at CALL
        have FT := Lib.hid (FULL.out hpj)
        clear hpj FULL NXT hF
        go_wp2_with ((refine wpList_call_slot (o := ⟨some 16, _, _, _, _, _⟩) rfl 11 _ _ rfl g caps rfl hg.out (#[.agg #[.string dn, .int .i64 dp, dv]] ++ caps) (by simp [go_sem]) ?_; refine (CALL.out).mono ?_; rintro e w1 ⟨rfl, b1⟩; refine ⟨_, rfl, ?_⟩; simp only [Act.put, List.setIfInBounds_toArray, List.set_cons_succ, List.set_cons_zero]))
        have B1 := Lib.hid (hB.out.trans (b1.mono hB.out.size))
        clear b1
        go_wp2
        first | go_ret | skip
        exact ⟨⟨_, rfl, by rw [FT.out]; exact decide_eq_true (by omega)⟩, B1.out⟩
      | false =>
        rw [hpj] at CALL
        have NF : Hid ((List.range (j + 1)).any p = false) := Lib.hid (by rw [NXT.out, hF.out, hpj]; rfl)
        clear hpj FULL NXT hF
        go_wp2_with ((refine wpList_call_slot (o := ⟨some 16, _, _, _, _, _⟩) rfl 11 _ _ rfl g caps rfl hg.out (#[.agg #[.string dn, .int .i64 dp, dv]] ++ caps) (by simp [go_sem]) ?_; refine (CALL.out).mono ?_; rintro e w1 ⟨rfl, b1⟩; refine ⟨_, rfl, ?_⟩; simp only [Act.put, List.setIfInBounds_toArray, List.set_cons_succ, List.set_cons_zero]))
        have B1 := Lib.hid (hB.out.trans (b1.mono hB.out.size))
        clear b1
        go_wp2
        go_roundw
        case rel => exact ⟨j + 1, by omega, by go_num, NF, B1⟩
        case measure => simp [intOf]; omega
    · obtain rfl : j = n := by omega
      have t0 : decide ((j : Int) < (j : Int)) = false := by simp
      clear CELL
      go_wp2
      first | go_ret | skip
      exact ⟨⟨-1, rfl, by rw [hF.out]; rfl⟩, hB.out⟩
theorem containsD_any (g : Nat) (caps : Array Value) (hg : Hid (∀ vs w, (callFunc g vs).run Tryd.prog w = .ok (.enter g vs) w)) (v : Value) (xs : List Dt) (n : Nat) (p : Nat → Bool) (w : World) (h : SliceAt w 3 v xs.length (xs.flatMap Dt.cells)) (hn : n = xs.length)
    (hp : Hid (∀ j, j < n → ∀ W, Below w.heap.size w W → Calls Tryd.prog g (#[(xs.getD j default).val] ++ caps) W fun e w' => e = .returned (.bool (p j)) ∧ Below W.heap.size W w')) :
    Calls Tryd.prog 36 #[v, .func (.func g) #[] caps] w (BRw ((List.range n).any p) w) := by
  have C := Lib.hid (idxD_any g caps hg v xs n p w h hn hp)
  have E : Hid (∀ b w', b = (List.range n).any p → Below w.heap.size w w' → BRw ((List.range n).any p) w (.returned (.bool b)) w') := Lib.hid fun b w' e h => ⟨by rw [e], h⟩
  generalize BRw ((List.range n).any p) w = Z at *
  clear h hp hn
  go_enter Tryd.func36, Tryd.ntmps36
  go_wp2_with fail
  refine C.out.mono ?_
  rintro e w1 ⟨⟨r, rfl, hr⟩, b1⟩
  have F := Lib.hid (E.out _ _ hr b1)
  clear b1 hr C
  go_wp2
  first | go_ret | skip
  exact F.out
end Go.Proofs.YtncifeeinogcnaaDoor
