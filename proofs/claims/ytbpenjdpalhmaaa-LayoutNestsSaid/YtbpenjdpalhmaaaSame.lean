/- The comparing functions: Row, Same. -/
import Derived.Test.YtbpenjdpalhmaaaOwn
namespace Go.Proofs.Ytbpenjdpalhmaaa
open Go.RowKit Go.Proofs.TreeMath
/-- A function that returns a bool. -/
def BRet (W : World) (b : Bool) (e : Ending) (w' : World) : Prop := ∃ b', b' = b ∧ e = .returned (.bool b') ∧ Below W.heap.size W w'
theorem same_far (p q : Option Addr) (n m c d : Nat) (w : World) (h : (n != m) = true) : Calls Try.prog 17 #[.slice p n c, .slice q m d] w (BRet w false) := by
  have h2 : ((n : Int) != (m : Int)) = true := by simp at h ⊢; omega
  have h3 : ((n : Int) == (m : Int)) = false := by simp at h ⊢; omega
  have h4 : (n == m) = false := by simp at h ⊢; omega
  go_enter Try.func17, Try.ntmps17
  go_wp2
  go_ret
  exact ⟨_, rfl, rfl, Below.refl _ _⟩
theorem same_zero (p q : Option Addr) (c d : Nat) (w : World) : Calls Try.prog 17 #[.slice p 0 c, .slice q 0 d] w (BRet w true) := by
  go_enter Try.func17, Try.ntmps17
  go_wp2
  refine wp_loop_rounds 1 ?_
  rw [rounds_succ]
  go_wp2
  go_ret
  exact ⟨_, rfl, rfl, Below.refl _ _⟩
theorem list_eq_pre {α : Type} (d : α) (xs ys : List α) (hl : xs.length = ys.length) (h : ∀ i, i < xs.length → xs.getD i d = ys.getD i d) : xs = ys := by
  refine List.ext_getElem hl fun i h1 h2 => ?_
  have := h i h1
  simpa [List.getD_eq_getElem?_getD, List.getElem?_eq_getElem h1, List.getElem?_eq_getElem h2] using this
set_option maxHeartbeats 2000000 in
theorem same_any' (b off b2 off2 c d n : Nat) (xs ys : List Nd) (w : World) (hx : Hid (xs.length = n)) (hy : Hid (ys.length = n)) (h1 : Hid (CellsIn w b off (nodeCells xs))) (h2 : Hid (CellsIn w b2 off2 (nodeCells ys))) (hb : b < w.heap.size) (hb2 : b2 < w.heap.size) (hn : n ≤ 1000000) (hn0 : 0 < n) :
    Calls Try.prog 17 #[.slice (some ⟨b, off, none⟩) n c, .slice (some ⟨b2, off2, none⟩) n d] w (BRet w (decide (xs = ys))) := by
  go_enter Try.func17, Try.ntmps17
  go_wp2
  go_loopw [5] (fun i wr => ∃ k : Nat, k ≤ n ∧ i = .int .i64 k ∧ Below w.heap.size w wr ∧ ∀ j, j < k → xs.getD j default = ys.getD j default) (fun i _ => n - (intOf i).toNat)
  case atStart => exact ⟨0, Nat.zero_le _, rfl, Below.refl _ _, fun j hj => by omega⟩
  case round =>
    obtain ⟨k, hk, rfl, hbel, hpre⟩ := hrel
    have HP := Lib.hid hpre
    clear hpre
    by_cases hlt : k < n
    · obtain ⟨a1, a2, a3, a4⟩ := h1.out.node k (by rw [hx.out]; exact hlt)
      obtain ⟨e1, e2, e3, e4⟩ := h2.out.node k (by rw [hy.out]; exact hlt)
      have a1 := (hbel.cell (p := ⟨b, off + k * 4, none⟩) hb).trans a1
      have a2 := (hbel.cell (p := ⟨b, off + k * 4 + 1, none⟩) hb).trans a2
      have a3 := (hbel.cell (p := ⟨b, off + k * 4 + 2, none⟩) hb).trans a3
      have a4 := (hbel.cell (p := ⟨b, off + k * 4 + 3, none⟩) hb).trans a4
      have e1 := (hbel.cell (p := ⟨b2, off2 + k * 4, none⟩) hb2).trans e1
      have e2 := (hbel.cell (p := ⟨b2, off2 + k * 4 + 1, none⟩) hb2).trans e2
      have e3 := (hbel.cell (p := ⟨b2, off2 + k * 4 + 2, none⟩) hb2).trans e3
      have e4 := (hbel.cell (p := ⟨b2, off2 + k * 4 + 3, none⟩) hb2).trans e4
      obtain ⟨x, hxk⟩ : ∃ x, x = xs.getD k default := ⟨_, rfl⟩
      obtain ⟨y, hyk⟩ : ∃ y, y = ys.getD k default := ⟨_, rfl⟩
      rw [← hxk] at a1 a2 a3 a4
      rw [← hyk] at e1 e2 e3 e4
      have HX := Lib.hid hxk
      have HY := Lib.hid hyk
      clear hxk hyk
      obtain ⟨x1, x2, x3, x4⟩ := x
      obtain ⟨y1, y2, y3, y4⟩ := y
      simp only at a1 a2 a3 a4 e1 e2 e3 e4
      by_cases g1 : x1 = y1
      · subst g1
        by_cases g2 : x2 = y2
        · subst g2
          by_cases g3 : x3 = y3
          · subst g3
            by_cases g4 : x4 = y4
            · subst g4
              go_wp2
              go_region
              go_wp2
              go_roundw
              case rel => exact ⟨k + 1, by omega, by go_num, hbel.drew, fun j hj => by
                rcases Nat.lt_or_ge j k with h | h
                · exact HP.out j h
                · rw [show j = k by omega, ← HX.out, ← HY.out]⟩
              case measure => simp [intOf]; omega
            · have f1 : (x4 == y4) = false := by simpa using g4
              have f2 : (x4 != y4) = true := by simpa using g4
              go_wp2
              go_region
              go_wp2
              go_ret
              refine ⟨_, ?_, rfl, hbel.drew⟩
              symm
              rw [decide_eq_false_iff_not]
              intro h
              apply g4
              have h9 := HX.out.trans ((congrArg (fun l => List.getD l k default) h).trans HY.out.symm)
              exact congrArg Nd.kids h9
          · have f1 : (x3 == y3) = false := by simpa using g3
            have f2 : (x3 != y3) = true := by simpa using g3
            go_wp2
            go_region
            go_wp2
            go_ret
            refine ⟨_, ?_, rfl, hbel.drew⟩
            symm
            rw [decide_eq_false_iff_not]
            intro h
            apply g3
            have h9 := HX.out.trans ((congrArg (fun l => List.getD l k default) h).trans HY.out.symm)
            exact congrArg Nd.num h9
        · have f3 : (x2.toList == y2.toList) = false := by
            rw [beq_eq_false_iff_ne]
            intro h
            exact g2 (Go.WideShapes.bytes_inj (by simpa [ByteArray.toList_eq] using h))
          go_wp2
          go_region
          go_wp2
          go_ret
          refine ⟨_, ?_, rfl, hbel.drew⟩
          symm
          rw [decide_eq_false_iff_not]
          intro h
          apply g2
          have h9 := HX.out.trans ((congrArg (fun l => List.getD l k default) h).trans HY.out.symm)
          exact congrArg Nd.text h9
      · have f1 : (x1 == y1) = false := by simpa using g1
        have f2 : (x1 != y1) = true := by simpa using g1
        go_wp2
        go_region
        go_wp2
        go_ret
        refine ⟨_, ?_, rfl, hbel.drew⟩
        symm
        rw [decide_eq_false_iff_not]
        intro h
        apply g1
        have h9 := HX.out.trans ((congrArg (fun l => List.getD l k default) h).trans HY.out.symm)
        exact congrArg Nd.kind h9
    · go_wp2
      go_ret
      refine ⟨_, ?_, rfl, hbel⟩
      symm
      rw [decide_eq_true_eq]
      exact list_eq_pre default xs ys (by rw [hx.out, hy.out]) fun i hi => HP.out i (by rw [hx.out] at hi; omega)
theorem same_any (v v2 : Value) (xs ys : List Nd) (w : World) (h : NodesAt w v xs) (h2 : NodesAt w v2 ys) (hn : xs.length ≤ 1000000) : Calls Try.prog 17 #[v, v2] w (BRet w (decide (xs = ys))) := by
  obtain ⟨_, p, c, rfl, _, _, hp⟩ := h
  obtain ⟨_, q, d, rfl, _, _, hq⟩ := h2
  by_cases hl : xs.length = ys.length
  · by_cases h0 : xs.length = 0
    · obtain rfl : xs = [] := List.eq_nil_of_length_eq_zero h0
      obtain rfl : ys = [] := List.eq_nil_of_length_eq_zero (by rw [← hl]; rfl)
      exact same_zero p q c d w
    · obtain ⟨b, off, rfl, hb, hc⟩ := hp h0
      obtain ⟨b2, off2, rfl, hb2, hc2⟩ := hq (by omega)
      rw [← hl]
      exact same_any' b off b2 off2 c d xs.length xs ys w rfl hl.symm hc hc2 hb hb2 hn (Nat.pos_of_ne_zero h0)
  · rw [decide_eq_false (fun e => hl (by rw [e]))]
    exact same_far p q _ _ c d w (by simpa using hl)
end Go.Proofs.Ytbpenjdpalhmaaa
