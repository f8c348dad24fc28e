/- Texts of this seat, one behind the other: DaR. -/
import Derived.Test.YtncifeeinogcnaaDoorKn25
import Derived.Test.YtncifeeinogcnaaDoorKn22
import Derived.Test.YtncifeeinogcnaaDoorKn20
import Derived.Test.YtncifeeinogcnaaDoorKn27
import Derived.BigQuiet
import Derived.Lib.QuietBelow
import Derived.RangeFuncWrites
import Derived.RangeFuncBox
import Derived.RangeFuncLeaves
import Derived.RangeFuncNested
import Derived.RangeFuncBound
import Derived.RangeFuncCalls
import Derived.Shelf.Abstract
import Derived.WalkKit
import Derived.OwnWalkIn
import Derived.TacticsInMore
import Derived.LoopNIn
import Derived.LoopIn
import Derived.Maps.OwnIn
/- The document's Types. -/
set_option maxRecDepth 100000
namespace Go.Proofs.YtncifeeinogcnaaDoor
open Go.Shelf Go.RowKit Go.Lib Go.Sort Go.Maps Go.Proofs.TreeMath Go.Proofs.LexMath

theorem lists_cell {w : World} {v : Value} {Ls : List (List Nd)} (h : ListsAt w v Ls) (i : Nat) (hi : i < Ls.length) : ∃ b off c q cc, v = .slice (some ⟨b, off, none⟩) Ls.length c ∧ b < w.heap.size ∧ w.cell? ⟨b, off + i, none⟩ = some (.slice q (Ls.getD i []).length cc) ∧ NodesAt w (.slice q (Ls.getD i []).length cc) (Ls.getD i []) := by
  obtain ⟨vs, ⟨hvl, lq, lc, rfl, _, _, hp⟩, hvs⟩ := h
  obtain ⟨b, off, rfl, hb, hc⟩ := hp (by omega)
  have n := hvs i hi
  obtain ⟨q, cc, e⟩ := nodes_form' n
  have c0 := hc i (vs.getD i default) (by rw [List.getD_eq_getElem?_getD, List.getElem?_eq_getElem (by omega)]; rfl)
  rw [e] at c0 n
  exact ⟨b, off, lc, q, cc, rfl, hb, c0, n⟩
theorem take_eq_succ {α : Type} [Inhabited α] (a b : List α) (d : α) (i : Nat) (ha : i < a.length) (hb : i < b.length) : a.take (i + 1) = b.take (i + 1) ↔ a.take i = b.take i ∧ a.getD i d = b.getD i d := by
  rw [List.take_succ_eq_append_getElem ha, List.take_succ_eq_append_getElem hb, List.getD_eq_getElem?_getD, List.getD_eq_getElem?_getD, List.getElem?_eq_getElem ha, List.getElem?_eq_getElem hb]
  constructor
  · intro h
    have := List.append_inj h (by rw [List.length_take, List.length_take]; omega)
    exact ⟨this.1, by simpa using this.2⟩
  · rintro ⟨h1, h2⟩
    rw [h1]
    simp only [Option.getD_some] at h2
    rw [h2]
set_option maxHeartbeats 1000000 in
theorem types_any (v1 v2 : Value) (A B : List (List Nd)) (w : World) (h1 : ListsAt w v1 A) (h2 : ListsAt w v2 B) (hn : A.length ≤ 1000000) (hs : ∀ t ∈ A, t.length ≤ 1000000) : Calls Tryd.prog 12 #[v1, v2] w (BRw (decide (A = B)) w) := by
  have H1 := Lib.hid h1
  have H2 := Lib.hid h2
  have HS := Lib.hid hs
  obtain ⟨q1, c1, e1⟩ := h1.form
  obtain ⟨q2, c2, e2⟩ := h2.form
  have EQ1 := Lib.hid e1
  have EQ2 := Lib.hid e2
  obtain ⟨n, hnn⟩ : ∃ n, n = A.length := ⟨_, rfl⟩
  obtain ⟨m, hmm⟩ : ∃ m, m = B.length := ⟨_, rfl⟩
  have HN := Lib.hid hnn
  have HM := Lib.hid hmm
  have E : Hid (∀ y w', decide (A = B) = y → Below w.heap.size w w' → BRw (decide (A = B)) w (.returned (.bool y)) w') := Lib.hid fun y w' e b => ⟨by rw [e], b⟩
  generalize BRw (decide (A = B)) w = Z at E ⊢
  rw [e1, e2, ← hnn, ← hmm]
  by_cases hne : n = m
  · have t1 : ((n : Int) != (m : Int)) = false := by simp [hne]
    have HE := Lib.hid hne
    have hn6 : n ≤ 1000000 := by omega
    subst hne
    clear h1 h2 e1 e2 hnn hmm hn hs
    go_enter Tryd.func12, Tryd.ntmps12
    go_wp2
    go_loopw [5] (fun s5 wr => ∃ i : Nat, i ≤ n ∧ s5 = .int .i64 i ∧ Hid (A.take i = B.take i) ∧ Hid (Below w.heap.size w wr)) (fun s5 _ => n - (intOf s5).toNat)
    case atStart => exact ⟨0, Nat.zero_le _, rfl, Lib.hid rfl, Lib.hid (Below.refl _ _)⟩
    case round =>
      obtain ⟨wo, hwo⟩ : ∃ wo : World, wo = wr := ⟨_, rfl⟩
      subst hwo
      obtain ⟨i, hi, rfl, hT, hB⟩ := hrel
      by_cases hlt : i < n
      · have k2 : ((i : Int) < (n : Int)) := by omega
        obtain ⟨b, off, c, qa, ca, e1, hb, x0, na⟩ := lists_cell H1.out i (by rw [← HN.out]; exact hlt)
        obtain ⟨b2, off2, c', qb, cb, e2, hb2, y0, nb⟩ := lists_cell H2.out i (by rw [← HM.out]; exact hlt)
        rw [EQ1.out] at e1
        rw [EQ2.out] at e2
        simp only [Value.slice.injEq] at e1 e2
        obtain ⟨rfl, -, -⟩ := e1
        obtain ⟨rfl, -, -⟩ := e2
        have c0 := (hB.out.cell (p := ⟨b, off + i, none⟩) hb).trans x0
        have d0 := (hB.out.cell (p := ⟨b2, off2 + i, none⟩) hb2).trans y0
        have SX := Lib.hid (na.below hB.out)
        have SY := Lib.hid (nb.below hB.out)
        have hx4 := HS.out (A.getD i []) (by rw [List.getD_eq_getElem?_getD, List.getElem?_eq_getElem (by rw [← HN.out]; exact hlt)]; exact List.getElem_mem _)
        have SAME := Lib.hid (fun W (hW : Below wo.heap.size wo W) => same_any _ _ (A.getD i []) (B.getD i []) W (SX.out.below hW) (SY.out.below hW) hx4)
        have TS := Lib.hid (take_eq_succ A B [] i (by rw [← HN.out]; exact hlt) (by rw [← HM.out]; exact hlt))
        obtain ⟨la, hla⟩ : ∃ l, l = (A.getD i []).length := ⟨_, rfl⟩
        obtain ⟨lb, hlb⟩ : ∃ l, l = (B.getD i []).length := ⟨_, rfl⟩
        rw [← hla] at SAME c0
        rw [← hlb] at SAME d0
        clear hla hlb hx4 na nb x0 y0 hb hb2 SX SY
        cases hd : decide (A.getD i [] = B.getD i []) with
        | false =>
          have NE : Hid (decide (A = B) = false) := Lib.hid (decide_eq_false fun e => by subst e; simp at hd)
          rw [hd] at SAME
          have SAME2 : Hid (∀ W, Below wo.heap.size wo W → Calls Tryd.prog 17 #[.slice qa la ca, .slice qb lb cb] W fun e w' => e = .returned (.bool false) ∧ Below W.heap.size W w') := Lib.hid fun W hW => (SAME.out W hW).mono fun e w' h => by obtain ⟨b', rfl, rfl, b⟩ := h; exact And.intro rfl b
          clear hd SAME TS hT
          go_wp2
          have e0 := cell_regrown c0
          have e2 := cell_regrown d0
          clear c0 d0
          refine wp_region_quiet_below (by kernel_rfl) (by kernel_rfl) ?_
          repeat (go_big_quiet_step ((go_at_call 17; with_reducible exact Calls.regrown_of (SAME2.out _ (below_regrown wo _ _)))))
          refine wpQuiet_nil ?_
          intro _ hw'
          obtain ⟨⟨dq, osq⟩, hw''⟩ := hw'
          subst hw''
          have B5 := Lib.hid (hB.out.trans ((below_regrown wo dq osq).mono hB.out.size))
          clear e0 e2 SAME2
          go_wp2
          first | go_ret | skip
          exact E.out _ _ NE.out B5.out
        | true =>
          have TN : Hid (A.take (i + 1) = B.take (i + 1)) := Lib.hid (TS.out.2 ⟨hT.out, of_decide_eq_true hd⟩)
          rw [hd] at SAME
          have SAME2 : Hid (∀ W, Below wo.heap.size wo W → Calls Tryd.prog 17 #[.slice qa la ca, .slice qb lb cb] W fun e w' => e = .returned (.bool true) ∧ Below W.heap.size W w') := Lib.hid fun W hW => (SAME.out W hW).mono fun e w' h => by obtain ⟨b', rfl, rfl, b⟩ := h; exact And.intro rfl b
          clear hd SAME TS hT
          go_wp2
          have e0 := cell_regrown c0
          have e2 := cell_regrown d0
          clear c0 d0
          refine wp_region_quiet_below (by kernel_rfl) (by kernel_rfl) ?_
          repeat (go_big_quiet_step ((go_at_call 17; with_reducible exact Calls.regrown_of (SAME2.out _ (below_regrown wo _ _)))))
          refine wpQuiet_nil ?_
          intro _ hw'
          obtain ⟨⟨dq, osq⟩, hw''⟩ := hw'
          subst hw''
          have B5 := Lib.hid (hB.out.trans ((below_regrown wo dq osq).mono hB.out.size))
          clear e0 e2 SAME2
          go_wp2
          go_roundw
          case rel => exact ⟨i + 1, hlt, by go_num, TN, B5⟩
          case measure => simp [intOf]; omega
      · obtain rfl : i = n := by omega
        have YE : Hid (decide (A = B) = true) := Lib.hid (decide_eq_true (by
          have := hT.out
          rwa [List.take_of_length_le (by rw [← HN.out]; exact Nat.le_refl _), List.take_of_length_le (by rw [← HM.out]; exact Nat.le_refl _)] at this))
        have B5 := Lib.hid hB.out
        clear hT hB
        go_wp2
        first | go_ret | skip
        exact E.out _ _ YE.out B5.out
  · have t1 : ((n : Int) != (m : Int)) = true := by simp; omega
    have NE : Hid (decide (A = B) = false) := Lib.hid (decide_eq_false fun e => hne (by rw [hnn, hmm, e]))
    clear h1 h2 e1 e2 hnn hmm hn hs hne
    go_enter Tryd.func12, Tryd.ntmps12
    go_wp2
    first | go_ret | skip
    exact E.out _ _ NE.out (Below.refl _ _)
end Go.Proofs.YtncifeeinogcnaaDoor
