/- The walk of FixFlats. -/
import Derived.Test.YtkmgapieoedelaaFixY
namespace Go.Proofs.Ytkmgapieoedelaa
open Go.Shelf Go.RowKit Go.Lib Go.Sort Go.Proofs.FixMath

set_option maxRecDepth 100000 in
set_option maxHeartbeats 2000000 in
theorem flats_walk (v : Value) (l : List Int) (w : World) (h : IntsAt w v l) : Calls Try.prog 5 #[v] w (RB true w) := by
  obtain ⟨p, c, rfl⟩ := ints_form h
  obtain ⟨i0, hi, hz0, hz1, hz2⟩ := infoInt
  have HI := Lib.hid (And.intro hi (And.intro hz0 (And.intro hz1 hz2)))
  clear hi hz0 hz1 hz2
  obtain ⟨n, hl⟩ : ∃ n, l.length = n := ⟨_, rfl⟩
  rw [hl] at h ⊢
  have HL := Lib.hid hl
  have H0 := Lib.hid h
  clear h
  by_cases hs : (n : Int) ≤ 60
  · have d : decide ((60 : Int) < (n : Int)) = false := by simp; omega
    have d' : decide (60 < n) = false := by simp; omega
    have LE : (flatA l).getD [] = [] ∨ ((flatA l).getD []).length = n := by
      cases hq : flatA l with
      | none => exact .inl rfl
      | some a => exact .inr (by rw [← hl]; exact flatA_len hq)
    have F := Lib.hid (fun v W h => flat_any v l W h (by omega))
    have G := Lib.hid (fun v W h => rflats_any v l W h (by omega))
    obtain ⟨R, hR⟩ : ∃ R, R = flatA l := ⟨_, rfl⟩
    have HN : Hid (0 + n ≤ maxLen ∧ (0 + n) * 8 ≤ 140737488355328) := Lib.hid ⟨by unfold maxLen; omega, by omega⟩
    rw [← hR] at F G LE
    have RW := Lib.hid (fun v u W h1 h2 => row_any v u (R.getD []) (R.getD []) W h1 h2 (by rcases LE with h | h <;> rw [h] <;> first | omega | simp))
    rw [show decide (R.getD [] = R.getD []) = true by simp] at RW
    clear hR hl hs LE
    go_enter Try.func5, Try.ntmps5
    go_wp2_with fail
    refine (awake_any _).mono ?_
    rintro e w1 ⟨rfl, b1⟩
    have B1 := Lib.hid b1
    have H1 := Lib.hid (H0.out.below b1)
    clear b1
    have HX := Lib.hid (ints_src (H1.out.below ((Below.refl _ _).alloc (Nat.le_refl _) (.cells #[] 3))))
    go_wp2_with ((at_builtin; refine wpList_append_any _ rfl _ _ 38 rfl w1.heap.size 3 i0 (.int .i64 0) 1 8 Try.underlying38 HI.out.1 HI.out.2.1 HI.out.2.2.1 HI.out.2.2.2 rfl (by decide) _ 0 [] rfl (World.ownsRow_made w1 #[] 0 (Nat.le_refl _) (Nat.zero_le _) rfl) p n c (intCells l) rfl (by rw [length_intCells, HX.out.1]) HX.out.2 (intCells_one l) HN.out.1 HN.out.2 (by simp) ?_; intro p' cap' w2 hown hgrow hblk; have O2 := Lib.hid (ints_own HL.out hown); have B2 := Lib.hid (own_below hgrow); clear hown hgrow hblk))
    refine (F.out _ _ O2.out).mono ?_
    intro e w3 hr
    obtain ⟨q, k, rfl, b3, h3⟩ := hr.at
    have H3 := Lib.hid (H1.out.below (B2.out.trans (b3.mono B2.out.size)))
    have B3 := Lib.hid (B1.out.trans ((B2.out.trans (b3.mono B2.out.size)).mono B1.out.size))
    have Q3 := Lib.hid h3
    clear hr b3 h3
    go_wp2_with fail
    refine (G.out _ _ H3.out).mono ?_
    intro e w4 hr
    obtain ⟨q2, k2, rfl, b4, h4⟩ := hr.at
    have B4 := Lib.hid (B3.out.trans (b4.mono B3.out.size))
    have C := Lib.hid (RW.out _ _ w4 (Q3.out.below b4) h4)
    clear hr b4 h4
    generalize R.isSome = ok at *
    have dd : (ok == ok) = true := by simp
    go_wp2_with fail
    refine C.out.mono ?_
    rintro e w5 ⟨rfl, b5⟩
    go_wp2
    go_ret
    exact ⟨rfl, B4.out.trans (b5.mono B4.out.size)⟩
  · have d : decide ((60 : Int) < (n : Int)) = true := by simp; omega
    have d' : decide (60 < n) = true := by simp; omega
    clear hs
    go_enter Try.func5, Try.ntmps5
    go_wp2_with fail
    refine (awake_any _).mono ?_
    rintro e w1 ⟨rfl, b1⟩
    have B1 := Lib.hid b1
    clear b1
    go_wp2_with fail
    refine (awake_any _).mono ?_
    rintro e w2 ⟨rfl, b2⟩
    go_wp2
    go_ret
    exact ⟨rfl, B1.out.trans (b2.mono B1.out.size)⟩
end Go.Proofs.Ytkmgapieoedelaa
