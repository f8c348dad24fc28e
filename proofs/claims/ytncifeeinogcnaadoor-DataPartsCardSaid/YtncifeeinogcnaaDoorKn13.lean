/- Texts of this seat, one behind the other: DaE. -/
import Derived.Test.YtncifeeinogcnaaDoorKn12
/- Whether a declaration is well-formed; the search. -/
set_option maxRecDepth 100000
namespace Go.Proofs.YtncifeeinogcnaaDoor
open Go.Shelf Go.RowKit Go.Lib Go.Sort Go.Proofs.TreeMath Go.Proofs.LexMath

set_option maxHeartbeats 1000000 in
theorem rdecl_any (d : Dt) (w : World) (h : CtsAt w d.cv d.cons) (hs : SmallD d) : Calls Tryd.prog 35 #[d.val] w (BRw (rightD d) w) := by
  obtain ⟨s1, s2, s3⟩ := hs
  have BA : Hid (Below w.heap.size w (w.alloc (.cells #[.string d.name, .int .i64 d.params, d.cv] 30))) := Lib.hid ((Below.refl _ _).alloc (Nat.le_refl _) _)
  have X1 := heap_alloc_new w (.cells #[.string d.name, .int .i64 d.params, d.cv] 30)
  have x0 := Lib.cell_of_heap X1 0
  have x1 := Lib.cell_of_heap X1 1
  have x2 := Lib.cell_of_heap X1 2
  have RN := Lib.hid (fun W => rname_any d.name W s1)
  have CO := Lib.hid (fun W (hW : Below w.heap.size w W) (hc : W.cell? ⟨w.heap.size, 1, none⟩ = some (.int .i64 d.params)) (hz : w.heap.size < W.heap.size) => (by
    have H := h.below hW
    have := containsC_any 47 #[.pointer (some ⟨w.heap.size, 0, none⟩)] (enters 47 _ Tryd.func47 (by kernel_rfl) (by kernel_rfl)) d.cv d.cons d.cons.length (fun j => !rightC d.params (d.cons.getD j default)) W H.1 rfl (Lib.hid fun j hj W2 hW2 => right1_any (d.cons.getD j default) d.params w.heap.size W2 ((H.2 _ (getD_mem d.cons j hj)).below hW2) (s3 _ (getD_mem d.cons j hj)) ((hW2.cell (p := ⟨w.heap.size, 1, none⟩) hz).trans hc) (Nat.lt_of_lt_of_le hz hW2.size))
    rw [any_range d.cons (fun c => !rightC d.params c), show (d.cons.any fun c => !rightC d.params c) = !(d.cons.all (rightC d.params)) by rw [List.not_all_eq_any_not]] at this
    exact this : Calls Tryd.prog 50 #[d.cv, .func (.func 47) #[] #[.pointer (some ⟨w.heap.size, 0, none⟩)]] W (BRw (!(d.cons.all (rightC d.params))) W)))
  have R : rightD d = (nameB d.name && decide (0 ≤ d.params) && decide (d.params ≤ 8) && decide (1 ≤ d.cons.length) && decide (d.cons.length ≤ 60) && d.cons.all (rightC d.params)) := rfl
  have E : ∀ y, rightD d = y → Hid (∀ w', Below w.heap.size w w' → BRw (rightD d) w (.returned (.bool y)) w') := fun y e => Lib.hid fun w' h => ⟨by rw [e], h⟩
  obtain ⟨lq, lc, elv⟩ := h.form
  obtain ⟨M, hM⟩ : ∃ M, M = d.cons.length := ⟨_, rfl⟩
  rw [← hM] at elv R
  unfold BRw at RN CO
  obtain ⟨dn, dp, dv, dcs⟩ := d
  unfold Dt.val
  simp only [List.getElem?_toArray, List.getElem?_cons_succ, List.getElem?_cons_zero] at x0 x1 x2 BA RN CO R s1 s2 s3 elv hM ⊢
  subst elv
  generalize dcs.all (rightC dp) = yt at *
  generalize nameB dn = yn at *
  have hM9 : M ≤ 1000000 := by omega
  generalize rightD ⟨dn, dp, .slice lq M lc, dcs⟩ = yr at *
  clear s1 s2 s3 h X1 hM
  generalize hZ : BRw yr w = Z at *
  clear hZ
  cases yn with
  | false =>
    have E := E false (by rw [R]; rfl)
    clear R
    go_enter Tryd.func35, Tryd.ntmps35
    go_wp2_with fail
    refine (RN.out _).mono ?_
    rintro e w3 ⟨rfl, b3⟩
    have B3 := Lib.hid (BA.out.trans (b3.mono BA.out.size))
    have y0 := (b3.cell (p := ⟨w.heap.size, 0, none⟩) (by simp)).trans x0
    have y1 := (b3.cell (p := ⟨w.heap.size, 1, none⟩) (by simp)).trans x1
    have y2 := (b3.cell (p := ⟨w.heap.size, 2, none⟩) (by simp)).trans x2
    have hz3 : w.heap.size < w3.heap.size := by have := b3.size; simp at this; omega
    have C3 := Lib.hid (CO.out w3 B3.out y1 hz3)
    clear b3 x0 x1 x2 RN CO
    clear C3
    go_wp2
    first | go_ret | skip
    exact E.out _ B3.out
  | true =>
    by_cases p0 : 0 ≤ dp
    · have q0 : decide (0 ≤ dp) = true := decide_eq_true p0
      by_cases p8 : dp ≤ 8
      · have q8 : decide (dp ≤ 8) = true := decide_eq_true p8
        by_cases l1 : 1 ≤ M
        · have m1 : decide ((1 : Int) ≤ (M : Int)) = true := by simp; omega
          by_cases l60 : M ≤ 60
          · have m60 : decide ((M : Int) ≤ 60) = true := by simp; omega
            have E := E yt (by rw [R, q0, q8, decide_eq_true l1, decide_eq_true l60]; cases yt <;> rfl)
            clear R p0 p8 l1 l60
            go_enter Tryd.func35, Tryd.ntmps35
            go_wp2_with fail
            refine (RN.out _).mono ?_
            rintro e w3 ⟨rfl, b3⟩
            have B3 := Lib.hid (BA.out.trans (b3.mono BA.out.size))
            have y0 := (b3.cell (p := ⟨w.heap.size, 0, none⟩) (by simp)).trans x0
            have y1 := (b3.cell (p := ⟨w.heap.size, 1, none⟩) (by simp)).trans x1
            have y2 := (b3.cell (p := ⟨w.heap.size, 2, none⟩) (by simp)).trans x2
            have hz3 : w.heap.size < w3.heap.size := by have := b3.size; simp at this; omega
            have C3 := Lib.hid (CO.out w3 B3.out y1 hz3)
            clear b3 x0 x1 x2 RN CO
            go_wp2_with fail
            refine C3.out.mono ?_
            rintro e w4 ⟨rfl, b4⟩
            have F := Lib.hid (E.out _ (B3.out.trans (b4.mono B3.out.size)))
            clear b4 C3
            go_wp2
            first | go_ret | skip
            exact F.out
          · have m60 : decide ((M : Int) ≤ 60) = false := by simp; omega
            have E := E false (by rw [R, decide_eq_false l60]; simp)
            clear R p0 p8 l1 l60
            go_enter Tryd.func35, Tryd.ntmps35
            go_wp2_with fail
            refine (RN.out _).mono ?_
            rintro e w3 ⟨rfl, b3⟩
            have B3 := Lib.hid (BA.out.trans (b3.mono BA.out.size))
            have y0 := (b3.cell (p := ⟨w.heap.size, 0, none⟩) (by simp)).trans x0
            have y1 := (b3.cell (p := ⟨w.heap.size, 1, none⟩) (by simp)).trans x1
            have y2 := (b3.cell (p := ⟨w.heap.size, 2, none⟩) (by simp)).trans x2
            have hz3 : w.heap.size < w3.heap.size := by have := b3.size; simp at this; omega
            have C3 := Lib.hid (CO.out w3 B3.out y1 hz3)
            clear b3 x0 x1 x2 RN CO
            clear C3
            go_wp2
            first | go_ret | skip
            exact E.out _ B3.out
        · have m1 : decide ((1 : Int) ≤ (M : Int)) = false := by simp; omega
          have E := E false (by rw [R, decide_eq_false l1]; simp)
          clear R p0 p8 l1
          go_enter Tryd.func35, Tryd.ntmps35
          go_wp2_with fail
          refine (RN.out _).mono ?_
          rintro e w3 ⟨rfl, b3⟩
          have B3 := Lib.hid (BA.out.trans (b3.mono BA.out.size))
          have y0 := (b3.cell (p := ⟨w.heap.size, 0, none⟩) (by simp)).trans x0
          have y1 := (b3.cell (p := ⟨w.heap.size, 1, none⟩) (by simp)).trans x1
          have y2 := (b3.cell (p := ⟨w.heap.size, 2, none⟩) (by simp)).trans x2
          have hz3 : w.heap.size < w3.heap.size := by have := b3.size; simp at this; omega
          have C3 := Lib.hid (CO.out w3 B3.out y1 hz3)
          clear b3 x0 x1 x2 RN CO
          clear C3
          go_wp2
          first | go_ret | skip
          exact E.out _ B3.out
      · have q8 : decide (dp ≤ 8) = false := decide_eq_false p8
        have E := E false (by rw [R, q8]; simp)
        clear R p0 p8
        go_enter Tryd.func35, Tryd.ntmps35
        go_wp2_with fail
        refine (RN.out _).mono ?_
        rintro e w3 ⟨rfl, b3⟩
        have B3 := Lib.hid (BA.out.trans (b3.mono BA.out.size))
        have y0 := (b3.cell (p := ⟨w.heap.size, 0, none⟩) (by simp)).trans x0
        have y1 := (b3.cell (p := ⟨w.heap.size, 1, none⟩) (by simp)).trans x1
        have y2 := (b3.cell (p := ⟨w.heap.size, 2, none⟩) (by simp)).trans x2
        have hz3 : w.heap.size < w3.heap.size := by have := b3.size; simp at this; omega
        have C3 := Lib.hid (CO.out w3 B3.out y1 hz3)
        clear b3 x0 x1 x2 RN CO
        clear C3
        go_wp2
        first | go_ret | skip
        exact E.out _ B3.out
    · have q0 : decide (0 ≤ dp) = false := decide_eq_false p0
      have E := E false (by rw [R, q0]; simp)
      clear R p0
      go_enter Tryd.func35, Tryd.ntmps35
      go_wp2_with fail
      refine (RN.out _).mono ?_
      rintro e w3 ⟨rfl, b3⟩
      have B3 := Lib.hid (BA.out.trans (b3.mono BA.out.size))
      have y0 := (b3.cell (p := ⟨w.heap.size, 0, none⟩) (by simp)).trans x0
      have y1 := (b3.cell (p := ⟨w.heap.size, 1, none⟩) (by simp)).trans x1
      have y2 := (b3.cell (p := ⟨w.heap.size, 2, none⟩) (by simp)).trans x2
      have hz3 : w.heap.size < w3.heap.size := by have := b3.size; simp at this; omega
      have C3 := Lib.hid (CO.out w3 B3.out y1 hz3)
      clear b3 x0 x1 x2 RN CO
      clear C3
      go_wp2
      first | go_ret | skip
      exact E.out _ B3.out
theorem check1_any (d : Dt) (w : World) (h : CtsAt w d.cv d.cons) (hs : SmallD d) : Calls Tryd.prog 34 #[d.val] w (BRw (!rightD d) w) := by
  have BA : Hid (Below w.heap.size w (w.alloc (.cells #[.string d.name, .int .i64 d.params, d.cv] 30))) := Lib.hid ((Below.refl _ _).alloc (Nat.le_refl _) _)
  have C := Lib.hid (fun W (hW : Below w.heap.size w W) => rdecl_any d W (h.below hW) hs)
  have X1 := heap_alloc_new w (.cells #[.string d.name, .int .i64 d.params, d.cv] 30)
  have x0 := Lib.cell_of_heap X1 0
  have x1 := Lib.cell_of_heap X1 1
  have x2 := Lib.cell_of_heap X1 2
  obtain ⟨dn, dp, dv, dcs⟩ := d
  unfold Dt.val at C ⊢
  simp only [List.getElem?_toArray, List.getElem?_cons_succ, List.getElem?_cons_zero] at x0 x1 x2 BA C ⊢
  have E : Hid (∀ w', Below w.heap.size w w' → BRw (!rightD ⟨dn, dp, dv, dcs⟩) w (.returned (.bool (!rightD ⟨dn, dp, dv, dcs⟩))) w') := Lib.hid fun w' h => ⟨rfl, h⟩
  unfold BRw at C
  generalize rightD ⟨dn, dp, dv, dcs⟩ = y at *
  generalize BRw (!y) w = Z at *
  clear h hs X1
  go_enter Tryd.func34, Tryd.ntmps34
  go_wp2_with fail
  refine (C.out _ BA.out).mono ?_
  rintro e w3 ⟨rfl, b3⟩
  have F := Lib.hid (E.out _ (BA.out.trans (b3.mono BA.out.size)))
  clear b3 C
  go_wp2
  first | go_ret | skip
  exact F.out
end Go.Proofs.YtncifeeinogcnaaDoor
