/- For every two int64 numbers the law WordBack answers true and leaves its arguments as they were: what was divided comes back from quotient and remainder, and the remainder is nearer to nought than the divisor. No conditions. -/
import Derived.Test.YtblklhjmbhdhnaaRows
import Derived.Test.YtblklhjmbhdhnaaAwake
import Derived.Test.YtblklhjmbhdhnaaBackNum
import Derived.WalkKit
import Derived.ProofKit
import Derived.OpenShut
import Derived.ShutString
import Derived.ChangeOld
import Derived.Below
namespace Go.Proofs.Ytblklhjmbhdhnaa.wordBack
open Go.ChangeShapes Go.WideShapes Go.ChangeAt Go.RowKit
open Go.ChangeMaps (open_string shut_string)
set_option linter.unusedVariables false      -- a walk need not use every 'w<i>' (that an integer argument fits its kind)

theorem own : ownKnob Try.prog.godebug = none := by kernel_rfl

set_option maxHeartbeats 1000000 in
theorem walk (a0 : Int) (a1 : Int) (w0 : (Lit.int .i64 a0).wf = true) (w1 : (Lit.int .i64 a1).wf = true) (w : World) :
    Calls Try.prog 8 #[.int .i64 a0, .int .i64 a1] w fun e w' => e = .returned (.bool true) ∧ Below w.heap.size w w' := by
  by_cases h : wr a1 = 0
  · have hz : (wr a1 == 0) = true := by simpa using h
    clear h
    go_enter Try.func8, Try.ntmps8
    go_wp2_with (first
      | (go_at_call 10; refine (awake_any _).mono ?_; rintro e w1 ⟨rfl, hb⟩)
      | (go_at_call 11; refine (wrap_any _ _).mono ?_; rintro e w' ⟨rfl, rfl⟩)
      | (go_at_call 19; refine (div_zero _ _ _ hz).mono ?_; rintro e w' ⟨rfl, rfl⟩)
      | (go_at_call 20; refine (mod_zero _ _ _ hz).mono ?_; rintro e w' ⟨rfl, rfl⟩))
    go_ret
    exact ⟨rfl, hb⟩
  · have hz : (wr a1 == 0) = false := by simpa using h
    have hl := tmod_lt (wr a0) (wr a1) h
    have hs := tmod_sign (wr a0) (wr a1) h
    have hr := wr_range a1
    have back : (wr (wr (wr (Int.tdiv (wr a0) (wr a1)) * a1) + Int.tmod (wr a0) (wr a1)) == wr a0) = true := by rw [back_sum]; simp
    by_cases hy : wr a1 < 0
    · have hsz := sz_neg (wr a1) hy
      have y1 : decide (wr a1 < 0) = true := by simpa using hy
      have l1 : decide (wr a1 < Int.tmod (wr a0) (wr a1)) = true := by simp; omega
      have l2 : decide (Int.tmod (wr a0) (wr a1) < -wr a1) = true := by simp; omega
      by_cases hm : Int.tmod (wr a0) (wr a1) = 0
      · have m1 : (Int.tmod (wr a0) (wr a1) == 0) = true := by simpa using hm
        clear h hl hs hm hsz hy
        go_enter Try.func8, Try.ntmps8
        go_wp2_with (first
          | (go_at_call 10; refine (awake_any _).mono ?_; rintro e w1 ⟨rfl, hb⟩)
          | (go_at_call 11; refine (wrap_any _ _).mono ?_; rintro e w' ⟨rfl, rfl⟩)
          | (go_at_call 13; refine (add_any _ _ _).mono ?_; rintro e w' ⟨rfl, rfl⟩)
          | (go_at_call 17; refine (mul_any _ _ _).mono ?_; rintro e w' ⟨rfl, rfl⟩)
          | (go_at_call 19; refine (div_ok _ _ _ hz).mono ?_; rintro e w' ⟨rfl, rfl⟩)
          | (go_at_call 20; refine (mod_ok _ _ _ hz).mono ?_; rintro e w' ⟨rfl, rfl⟩))
        go_ret
        exact ⟨rfl, hb⟩
      · have m1 : (Int.tmod (wr a0) (wr a1) == 0) = false := by simpa using hm
        have m2 : (decide (Int.tmod (wr a0) (wr a1) < 0) == decide (wr a0 < 0)) = true := by
          by_cases hx : wr a0 < 0
          · have := hs.1 hx; have h' : Int.tmod (wr a0) (wr a1) < 0 := by omega
            simp [hx, h']
          · have := hs.2 (by omega); have h' : ¬ Int.tmod (wr a0) (wr a1) < 0 := by omega
            simp [hx, h']
        clear h hl hs hm hsz hy
        go_enter Try.func8, Try.ntmps8
        go_wp2_with (first
          | (go_at_call 10; refine (awake_any _).mono ?_; rintro e w1 ⟨rfl, hb⟩)
          | (go_at_call 11; refine (wrap_any _ _).mono ?_; rintro e w' ⟨rfl, rfl⟩)
          | (go_at_call 13; refine (add_any _ _ _).mono ?_; rintro e w' ⟨rfl, rfl⟩)
          | (go_at_call 17; refine (mul_any _ _ _).mono ?_; rintro e w' ⟨rfl, rfl⟩)
          | (go_at_call 19; refine (div_ok _ _ _ hz).mono ?_; rintro e w' ⟨rfl, rfl⟩)
          | (go_at_call 20; refine (mod_ok _ _ _ hz).mono ?_; rintro e w' ⟨rfl, rfl⟩))
        go_ret
        exact ⟨rfl, hb⟩
    · have hsz := sz_pos (wr a1) (by omega)
      have y1 : decide (wr a1 < 0) = false := by simpa using hy
      have y2 : decide (0 < wr a1) = true := by simp; omega
      have l1 : decide (Int.tmod (wr a0) (wr a1) < wr a1) = true := by simp; omega
      have l2 : decide (-wr a1 < Int.tmod (wr a0) (wr a1)) = true := by simp; omega
      by_cases hm : Int.tmod (wr a0) (wr a1) = 0
      · have m1 : (Int.tmod (wr a0) (wr a1) == 0) = true := by simpa using hm
        clear h hl hs hm hsz hy
        go_enter Try.func8, Try.ntmps8
        go_wp2_with (first
          | (go_at_call 10; refine (awake_any _).mono ?_; rintro e w1 ⟨rfl, hb⟩)
          | (go_at_call 11; refine (wrap_any _ _).mono ?_; rintro e w' ⟨rfl, rfl⟩)
          | (go_at_call 13; refine (add_any _ _ _).mono ?_; rintro e w' ⟨rfl, rfl⟩)
          | (go_at_call 17; refine (mul_any _ _ _).mono ?_; rintro e w' ⟨rfl, rfl⟩)
          | (go_at_call 19; refine (div_ok _ _ _ hz).mono ?_; rintro e w' ⟨rfl, rfl⟩)
          | (go_at_call 20; refine (mod_ok _ _ _ hz).mono ?_; rintro e w' ⟨rfl, rfl⟩))
        go_ret
        exact ⟨rfl, hb⟩
      · have m1 : (Int.tmod (wr a0) (wr a1) == 0) = false := by simpa using hm
        have m2 : (decide (Int.tmod (wr a0) (wr a1) < 0) == decide (wr a0 < 0)) = true := by
          by_cases hx : wr a0 < 0
          · have := hs.1 hx; have h' : Int.tmod (wr a0) (wr a1) < 0 := by omega
            simp [hx, h']
          · have := hs.2 (by omega); have h' : ¬ Int.tmod (wr a0) (wr a1) < 0 := by omega
            simp [hx, h']
        clear h hl hs hm hsz hy
        go_enter Try.func8, Try.ntmps8
        go_wp2_with (first
          | (go_at_call 10; refine (awake_any _).mono ?_; rintro e w1 ⟨rfl, hb⟩)
          | (go_at_call 11; refine (wrap_any _ _).mono ?_; rintro e w' ⟨rfl, rfl⟩)
          | (go_at_call 13; refine (add_any _ _ _).mono ?_; rintro e w' ⟨rfl, rfl⟩)
          | (go_at_call 17; refine (mul_any _ _ _).mono ?_; rintro e w' ⟨rfl, rfl⟩)
          | (go_at_call 19; refine (div_ok _ _ _ hz).mono ?_; rintro e w' ⟨rfl, rfl⟩)
          | (go_at_call 20; refine (mod_ok _ _ _ hz).mono ?_; rintro e w' ⟨rfl, rfl⟩))
        go_ret
        exact ⟨rfl, hb⟩

set_option maxRecDepth 100000 in
theorem lifted (os : Os) (started : os.Started) (H : Type) (enc : TypeId × Value → H) :
    ReturnsInHanded {} Try.checked os 8 .any (Rows.wordBackSpec.pre6 enc Try.prog Try.f8 Rows.wordBackRow.domain false) (Rows.wordBackSpec.post enc Try.prog Try.f8 false true false false) := by
  refine returnsInHanded_of_change (C := Try.checked) own started (by kernel_rfl) Try.func8
    (ChangeSpec.witness6 (enc := enc) (C := Try.checked) false ⟨#[], #[.int .i64 0, .int .i64 0], []⟩ 8 (by kernel_rfl) (by kernel_rfl) (by kernel_rfl) (by kernel_rfl)) ?_
  intro W base args ds gs before hval0 hW hcnd _
  have hval : ∀ (j : Nat) t v, Try.f8.params[j]? = some t → args[j]? = some v → Value.okWide Try.prog W .any base t v := hval0
  have hW' := hW
  obtain ⟨p, q, hA0, hV, rfl, hfz, hnd⟩ := hW
  have hA : DataW.TrodAll enc Try.prog W 0 (fun _ => true) true Try.f8.params.toList args.toList ds p := hA0
  rw [Try.params8] at hA hval
  obtain ⟨v0, vs0, d0, ds0, p0, q0, hargs, rfl, rfl, h0, r0⟩ := trodAll_cons hA
  obtain ⟨v1, vs1, d1, ds1, p1, q1, rfl, rfl, rfl, h1, r1⟩ := trodAll_cons r0
  obtain ⟨rfl, rfl, rfl⟩ := trodAll_nil r1
  obtain rfl : args = #[v0, v1] := by cases args; simp_all
  obtain ⟨rfl, rfl⟩ := trodVars_none hV
  obtain ⟨a0, rfl, rfl, rfl, w0⟩ := open_int Try.underlying2 (hval 0 2 v0 rfl rfl) h0
  obtain ⟨a1, rfl, rfl, rfl, w1⟩ := open_int Try.underlying2 (hval 1 2 v1 rfl rfl) h1
  clear hA0 hval0
  simp only [List.append_nil] at hW'
  refine (walk a0 a1 w0 w1 W).mono fun e W' ⟨he, hg⟩ => ?_
  subst he
  exact ⟨_, rfl, _, _, _, [], [], [], hW', trodAll_mk1 (shut_bool Try.underlying4 _), (trodAll_cons_mk (shut_int Try.underlying2 w0) (trodAll_cons_mk (shut_int Try.underlying2 w1) trodAll_mk0)), rfl, hg.frame _, fun h => by cases h⟩

theorem over : Rows.wordBackRow.holds Try.pinned (OpenSpec.ofChange Rows.wordBackSpec) :=
  OpenClaim.holds_of_wide 8 Try.f8 rfl rfl rfl rfl rfl rfl rfl ⟨rfl, rfl, rfl, rfl, rfl⟩ rfl rfl rfl rfl rfl (by kernel_rfl) Try.func8 (by kernel_rfl)
    (of_decide_eq_true (by kernel_rfl)) (by unfold Func.isWrapper; first | (rw [if_pos (by decide +kernel)]; kernel_rfl) | (rw [if_neg (by decide +kernel)]; exact ⟨rfl, rfl⟩))
    (fun os started H enc _ => lifted os started H enc)

/-- The statement. -/
theorem proved : Rows.WordBackSaid :=
  over
#print axioms proved
end Go.Proofs.Ytblklhjmbhdhnaa.wordBack
