/- tree.Deep: the function that goes along the path. -/
import Derived.Test.YtlalnmefppbebaaKids
import Derived.Deep.LoopGhost
namespace Go.Proofs.Ytlalnmefppbebaa
open Go.RowKit Go.Proofs.TreeMath
def pathCells (P : List Nat) : List Value := intCells (ofNats P.reverse)
theorem pathCells_cons (x : Nat) (P : List Nat) : pathCells (x :: P) = pathCells P ++ [.int .i64 x] := by simp [pathCells, intCells, ofNats]
theorem length_pathCells (P : List Nat) : (pathCells P).length = P.length := by simp [pathCells, intCells, ofNats]
/-- The path's and the depth's memory. -/
structure DMem (C D base : Nat) (P : List Nat) (d : Int) (w : World) : Prop where
  path : ∃ p n cap, n = P.length ∧ w.heap[C]? = some (.cells #[.slice p n cap] 62 (0, 0)) ∧ w.ownsRow base 3 1 (.slice p n cap) n (pathCells P)
  deep : w.heap[D]? = some (.cells #[.int .i64 d] 3 (0, 0))
  size : base ≤ w.heap.size
def DRet (C D base lo : Nat) (P : List Nat) (d : Int) (w : World) (b : Bool) (e : Ending) (w' : World) : Prop := e = .returned (.bool b) ∧ DMem C D base P d w' ∧ Below lo w w'
theorem deep_found (i : Int) (C D : Nat) (w : World) :
    Calls Try.prog 47 #[.int .i64 i, .int .i64 0, .pointer (some ⟨C, 0, none⟩), .pointer (some ⟨D, 0, none⟩)] w fun e w' => e = .returned (.bool true) ∧ w = w' := by
  go_enter Try.func47, Try.ntmps47
  go_wp2
  go_ret
  exact ⟨rfl, rfl⟩
theorem owns_cut {w : World} {base : Nat} {g cap m : Nat} {x : Nat} {Q : List Nat} (hQ : m = Q.length) (h : w.ownsRow base 3 1 (.slice (some ⟨g, 0, none⟩) (m + 1) cap) (m + 1) (pathCells (x :: Q))) :
    w.ownsRow base 3 1 (.slice (some ⟨g, 0, none⟩) m cap) m (pathCells Q) ∧ w.cell? ⟨g, m, none⟩ = some (.int .i64 x) ∧ m < cap ∧ cap ≤ maxLen := by
  subst hQ
  obtain ⟨h1, ⟨h2, _⟩ | ⟨g2, cap2, cur, hv, hb, hg, hn, hm, hs, ht⟩⟩ := h
  · simp at h2
  · simp only [Value.slice.injEq, Option.some.injEq, Addr.mk.injEq, true_and] at hv
    obtain ⟨⟨rfl, _⟩, rfl⟩ := hv
    refine ⟨⟨by rw [length_pathCells]; omega, .inr ⟨g, cap, cur, rfl, hb, hg, by omega, hm, hs, ?_⟩⟩, ?_, by omega, hm⟩
    · have := congrArg (List.take Q.length) ht
      rw [List.take_take, pathCells_cons, List.take_left' (length_pathCells Q)] at this
      rw [← this]
      congr 1
      omega
    · have h3 : (cur.toList.take ((Q.length + 1) * 1))[Q.length]? = some (.int .i64 x) := by
        rw [ht, pathCells_cons, List.getElem?_append_right (by rw [length_pathCells]; omega), length_pathCells]
        simp
      have h4 := take_get h3
      simp [World.cell?, hg]
      simpa using h4
theorem grown_same {w w3 : World} {x y : Obj} {base C n : Nat} {v : Value} {xs : List Value} (h : w.heap[C]? = some x) (hg : (w.alloc y).grownBy w3 v.ownBlock) (ho : w.ownsRow base 3 1 v n xs) (hC : C < base) (hs : base ≤ w.heap.size) : w3.heap[C]? = some x := by
  rw [hg.block C (by simp; omega) (by intro hh; have := (ho.lt C hh.symm).1; omega), Below.heap_alloc _ _ C (by omega)]
  exact h
theorem deep_end {C D base lo n c3 g3 on : Nat} {d y o : Int} {P Q : List Nat} {w w3 wr : World} {vv : Value} (hne : D ≠ C) (hCb : C < base) (hDb : D < base) (hlo : lo ≤ C) (hlo2 : lo ≤ D) (_hlob : lo ≤ base) (hbel : Below lo w wr) (hsz : base ≤ wr.heap.size)
    (hC3 : w3.heap[C]? = some (.cells #[vv] 62 (0, 0))) (hD3 : w3.heap[D]? = some (.cells #[.int .i64 d] 3 (0, 0))) (ho : o = (on : Int)) (hown : w3.ownsRow base 3 1 (.slice (some ⟨g3, 0, none⟩) n c3) n (pathCells Q ++ [.int .i64 o])) {x : Obj} {v0 : Value} {n0 : Nat} {xs0 : List Value} (hg : (wr.alloc x).grownBy w3 v0.ownBlock) (how : wr.ownsRow base 3 1 v0 n0 xs0)
    (hQ : trim on P = Q) (hn : n = Q.length + 1) (hy : y = max d (n : Int)) :
    DRet C D base lo (on :: trim on P) (max d ((trim on P).length + 1 : Nat)) w false (.returned (.bool false)) ((w3.setCell ⟨C, 0, none⟩ (.slice (some ⟨g3, 0, none⟩) n c3)).setCell ⟨D, 0, none⟩ (.int .i64 y)) := by
  subst ho hQ hy hn
  have hb3 : Below lo wr w3 := ((Below.refl _ _).alloc (by omega) _).grown hg (by simp; omega) fun k hk => by have := (how.lt k hk).1; omega
  refine ⟨rfl, ⟨⟨some ⟨g3, 0, none⟩, (trim on P).length + 1, c3, rfl, ?_, ?_⟩, ?_, ?_⟩, ?_⟩
  · exact (Below.heap_setCell _ _ _ _ (Ne.symm hne)).trans (one_setCell hC3)
  · rw [pathCells_cons]
    exact ownsRow_setCell_below (ownsRow_setCell_below hown (show C < base from hCb) _) (show D < base from hDb) _
  · have := one_setCell (u := .int .i64 (max d ((trim on P).length + 1 : Nat))) ((Below.heap_setCell w3 ⟨C, 0, none⟩ (.slice (some ⟨g3, 0, none⟩) ((trim on P).length + 1) c3) D hne).trans hD3)
    exact this
  · have := hg.size
    simp at this ⊢
    omega
  · exact ((hbel.trans hb3).setCell (show lo ≤ C from hlo) _).setCell (show lo ≤ D from hlo2) _
theorem trim_stop (on x : Nat) (Q : List Nat) (h : ¬ on < x) : trim on (x :: Q) = x :: Q := by
  unfold trim
  simp [h]
theorem trim_pop (on x : Nat) (Q : List Nat) (h : on < x) : trim on (x :: Q) = trim on Q := by
  unfold trim
  simp [h]
set_option maxHeartbeats 2000000 in
theorem deep_step (i o d : Int) (on : Nat) (C D base lo : Nat) (P : List Nat) (w : World) (hM : DMem C D base P d w) (hCb : C < base) (hDb : D < base) (hne : D ≠ C) (hlo : lo ≤ C) (hlo2 : lo ≤ D) (hlob : lo ≤ base) (ho : Hid (o = (on : Int))) (ho0 : 0 < o) (hob : o ≤ 1000000) (hP : P.length ≤ 1000000) (hd0 : 0 ≤ d) (hd1 : d ≤ 1000000) :
    Calls Try.prog 47 #[.int .i64 i, .int .i64 o, .pointer (some ⟨C, 0, none⟩), .pointer (some ⟨D, 0, none⟩)] w (DRet C D base lo (on :: trim on P) (max d ((trim on P).length + 1 : Nat)) w false) := by
  have ht : (o == 0) = false := beq_eq_false_iff_ne.2 (by omega)
  obtain ⟨i0, hi, hz0, hz1, hz2⟩ := infoInt
  have HI := Lib.hid (And.intro hi (And.intro hz0 (And.intro hz1 hz2)))
  clear hi hz0 hz1 hz2
  go_enter Try.func47, Try.ntmps47
  go_wp2
  go_loopg [] P.length (fun gk wr => ∃ Q : List Nat, gk = Q.length ∧ Q.length ≤ P.length ∧ trim on Q = trim on P ∧ DMem C D base Q d wr ∧ Below lo w wr)
  case atStart => exact ⟨P, rfl, Nat.le_refl _, rfl, hM, Below.refl _ _⟩
  case round =>
    obtain ⟨Q, rfl, hQl, hQ, ⟨⟨p, n, cap, hn, hC, hown⟩, hD, hsz⟩, hbel⟩ := hrel
    have cC := cell_of_one hC
    have fC := free_of_one hC
    have cD := cell_of_one hD
    have HQ := Lib.hid hQ
    have HD := Lib.hid hD
    cases Q with
    | nil =>
      obtain rfl : n = 0 := hn
      have HC := Lib.hid hC
      have HO := Lib.hid hown
      clear hC hD hown hQ
      go_wp2_with ((at_builtin; refine wpList_append_own _ rfl _ _ 62 rfl base 3 i0 (.int .i64 0) 1 8 Try.underlying62 HI.out.1 HI.out.2.1 HI.out.2.2.1 HI.out.2.2.2 rfl (by decide) (.slice p 0 cap) 0 (pathCells []) rfl (HO.out.alloc _) ⟨wr.heap.size, 0, none⟩ 1 1 [.int .i64 o] rfl rfl (cell_one_new _ _ _) (fun x hx => by simp at hx; subst hx; rfl) (by unfold maxLen; omega) (by omega) (by simp; omega) ?_; intro v' w3 hown' hgrow hnil; obtain ⟨g3, c3, hv3, hg3, hg4⟩ := owns_slice hown' (by omega); subst hv3; have hC3 : w3.heap[C]? = _ := grown_same HC.out hgrow HO.out hCb hsz; have hD3 : w3.heap[D]? = _ := grown_same HD.out hgrow HO.out hDb hsz; have c3' := cell_of_one hC3; have f3' := free_of_one hC3; have d3' := cell_of_one hD3; have e3' := free_of_one hD3; have d4 : (w3.setCell ⟨C, 0, none⟩ (.slice (some ⟨g3, 0, none⟩) (0 + 1) c3)).cell? ⟨D, 0, none⟩ = some (.int .i64 d) := cell_of_one ((Below.heap_setCell _ _ _ _ hne).trans hD3); have d5 : (w3.setCell ⟨C, 0, none⟩ (.slice (some ⟨g3, 0, none⟩) (0 + 1) c3)).frozen? ⟨D, 0, none⟩ = false := free_of_one ((Below.heap_setCell _ _ _ _ hne).trans hD3); have HC3 := Lib.hid hC3; have HD3 := Lib.hid hD3; have HO3 := Lib.hid hown'; have HG := Lib.hid hgrow; clear hC3 hD3 hown' hgrow hnil))
      all_goals go_ret
      · exact deep_end hne hCb hDb hlo hlo2 hlob hbel hsz HC3.out HD3.out ho.out HO3.out HG.out HO.out (Q := []) (by rw [← HQ.out]; rfl) rfl (by omega)
      · exact deep_end hne hCb hDb hlo hlo2 hlob hbel hsz HC3.out HD3.out ho.out HO3.out HG.out HO.out (Q := []) (by rw [← HQ.out]; rfl) rfl (by omega)
    | cons x Q =>
      obtain ⟨m, rfl⟩ : ∃ m, n = m + 1 := ⟨Q.length, hn⟩
      obtain ⟨g, cp, hv, hg, _⟩ := owns_slice hown (by omega)
      simp only [Value.slice.injEq] at hv
      obtain ⟨rfl, _, rfl⟩ := hv
      have hm : m = Q.length := by simpa using hn
      obtain ⟨hcut, hx, hlt, hcm⟩ := owns_cut hm hown
      have HU := Lib.hid hcut
      have HC := Lib.hid hC
      have HO := Lib.hid hown
      have HM := Lib.hid hm
      have hmP : m + 1 ≤ P.length := by simp at hQl; omega
      clear hC hD hown hQ hn hcut hm hQl
      unfold maxLen at hcm
      by_cases hxo : on < x
      · have t2 : decide (o < (x : Int)) = true := decide_eq_true (by have := ho.out; omega)
        go_wp2
        go_roundg Q.length
        case rel => exact ⟨Q, rfl, by have := HM.out; omega, by rw [← HQ.out, trim_pop on x Q hxo], ⟨⟨_, _, _, HM.out, one_setCell HC.out, ownsRow_setCell_below HU.out (show C < base from hCb) _⟩, (Below.heap_setCell _ _ _ _ hne).trans HD.out, by simpa using hsz⟩, hbel.setCell (show lo ≤ C from hlo) _⟩
        case measure => simp
      · have t2 : decide (o < (x : Int)) = false := decide_eq_false (by have := ho.out; omega)
        go_wp2_with ((at_builtin; refine wpList_append_own _ rfl _ _ 62 rfl base 3 i0 (.int .i64 0) 1 8 Try.underlying62 HI.out.1 HI.out.2.1 HI.out.2.2.1 HI.out.2.2.2 rfl (by decide) (.slice (some ⟨g, 0, none⟩) (m + 1) cap) (m + 1) (pathCells (x :: Q)) rfl (HO.out.alloc _) ⟨wr.heap.size, 0, none⟩ 1 1 [.int .i64 o] rfl rfl (cell_one_new _ _ _) (fun x hx => by simp at hx; subst hx; rfl) (by unfold maxLen; omega) (by omega) (by simp; omega) ?_; intro v' w3 hown' hgrow hnil; obtain ⟨g3, c3, hv3, hg3, hg4⟩ := owns_slice hown' (by omega); subst hv3; have hC3 : w3.heap[C]? = _ := grown_same HC.out hgrow HO.out hCb hsz; have hD3 : w3.heap[D]? = _ := grown_same HD.out hgrow HO.out hDb hsz; have c3' := cell_of_one hC3; have f3' := free_of_one hC3; have d3' := cell_of_one hD3; have e3' := free_of_one hD3; have d4 : (w3.setCell ⟨C, 0, none⟩ (.slice (some ⟨g3, 0, none⟩) ((m + 1) + 1) c3)).cell? ⟨D, 0, none⟩ = some (.int .i64 d) := cell_of_one ((Below.heap_setCell _ _ _ _ hne).trans hD3); have d5 : (w3.setCell ⟨C, 0, none⟩ (.slice (some ⟨g3, 0, none⟩) ((m + 1) + 1) c3)).frozen? ⟨D, 0, none⟩ = false := free_of_one ((Below.heap_setCell _ _ _ _ hne).trans hD3); have HC3 := Lib.hid hC3; have HD3 := Lib.hid hD3; have HO3 := Lib.hid hown'; have HG := Lib.hid hgrow; clear hC3 hD3 hown' hgrow hnil))
        all_goals go_ret
        · exact deep_end hne hCb hDb hlo hlo2 hlob hbel hsz HC3.out HD3.out ho.out HO3.out HG.out HO.out (Q := x :: Q) (by rw [← HQ.out, trim_stop on x Q hxo]) (by rw [List.length_cons, HM.out]) (by omega)
        · exact deep_end hne hCb hDb hlo hlo2 hlob hbel hsz HC3.out HD3.out ho.out HO3.out HG.out HO.out (Q := x :: Q) (by rw [← HQ.out, trim_stop on x Q hxo]) (by rw [List.length_cons, HM.out]) (by omega)
end Go.Proofs.Ytlalnmefppbebaa
