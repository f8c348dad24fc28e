/- Contracts of the functions of layer 1 that only reckon with numbers, over the translated program: what each one answers, and that it leaves the world alone. -/
import Derived.Test.YtblklhjmbhdhnaaRows
import Derived.Test.YtblklhjmbhdhnaaMath
import Derived.WalkKit
import Derived.ProofKit
import Derived.OpenShut
namespace Go.Proofs.Ytblklhjmbhdhnaa
open Go.RowKit

theorem ret_int {k : IntKind} {a b : Int} (h : a = b) : Ending.returned (.int k a) = .returned (.int k b) := by rw [h]

theorem tup_int {a b : Int} {v : Value} (h : a = b) : Ending.returned (.tuple #[.int .i64 a, v]) = .returned (.tuple #[.int .i64 b, v]) := by rw [h]

theorem wrap_any (n : Int) (w : World) :
    Calls Try.prog 11 #[.int .i64 n] w fun e w' => e = .returned (.int .i64 (wr n)) ∧ w = w' := by
  go_enter Try.func11, Try.ntmps11
  go_wp2
  go_ret
  exact ⟨ret_int (wr_shift n), rfl⟩
theorem u64_nonneg (n : Int) : 0 ≤ IntKind.u64.wrap n := by rw [u64w_eq]; unfold u64w; omega
theorem back_any (n : Int) (w : World) (h0 : 0 ≤ n) :
    Calls Try.prog 28 #[.int .u64 n] w fun e w' => e = .returned (.int .i64 (wr n)) ∧ w = w' := by
  go_enter Try.func28, Try.ntmps28
  go_wp2
  all_goals
    go_ret
    exact ⟨ret_int (by unfold wr; omega), rfl⟩
theorem size_neg (n : Int) (w : World) (h : n < 0) (hl : -4611686018427387904 ≤ n) :
    Calls Try.prog 29 #[.int .i64 n] w fun e w' => e = .returned (.int .u64 (-n)) ∧ w = w' := by
  go_enter Try.func29, Try.ntmps29
  go_wp2
  go_ret
  exact ⟨rfl, rfl⟩
theorem size_pos (n : Int) (w : World) (h : 0 ≤ n) (hl : n ≤ 4611686018427387903) :
    Calls Try.prog 29 #[.int .i64 n] w fun e w' => e = .returned (.int .u64 n) ∧ w = w' := by
  go_enter Try.func29, Try.ntmps29
  go_wp2
  go_ret
  exact ⟨rfl, rfl⟩
theorem add_any (a b : Int) (w : World) :
    Calls Try.prog 13 #[.int .i64 a, .int .i64 b] w fun e w' => e = .returned (.int .i64 (wr (a + b))) ∧ w = w' := by
  go_enter Try.func13, Try.ntmps13
  go_wp2_with (go_at_call 11; refine (wrap_any _ _).mono ?_; rintro e w' ⟨rfl, rfl⟩)
  go_ret
  exact ⟨ret_int (wr_wrap _), rfl⟩
theorem sub_any (a b : Int) (w : World) :
    Calls Try.prog 15 #[.int .i64 a, .int .i64 b] w fun e w' => e = .returned (.int .i64 (wr (a - b))) ∧ w = w' := by
  go_enter Try.func15, Try.ntmps15
  go_wp2_with (go_at_call 11; refine (wrap_any _ _).mono ?_; rintro e w' ⟨rfl, rfl⟩)
  go_ret
  exact ⟨ret_int (wr_wrap _), rfl⟩
theorem mul_any (a b : Int) (w : World) :
    Calls Try.prog 17 #[.int .i64 a, .int .i64 b] w fun e w' => e = .returned (.int .i64 (wr (a * b))) ∧ w = w' := by
  go_enter Try.func17, Try.ntmps17
  go_wp2_with (go_at_call 11; refine (wrap_any _ _).mono ?_; rintro e w' ⟨rfl, rfl⟩)
  go_ret
  exact ⟨ret_int (wr_wrap _), rfl⟩
theorem rwrap_any (a : Int) (w : World) :
    Calls Try.prog 12 #[.int .i64 a] w fun e w' => e = .returned (.int .i64 (wr a)) ∧ w = w' := by
  go_enter Try.func12, Try.ntmps12
  go_wp2_with (go_at_call 28; refine (back_any _ _ (u64_nonneg _)).mono ?_; rintro e w' ⟨rfl, rfl⟩)
  go_ret
  exact ⟨ret_int (by rw [u64w_eq, wr_u64w]), rfl⟩
theorem radd_any (a b : Int) (w : World) :
    Calls Try.prog 14 #[.int .i64 a, .int .i64 b] w fun e w' => e = .returned (.int .i64 (wr (a + b))) ∧ w = w' := by
  go_enter Try.func14, Try.ntmps14
  go_wp2_with (go_at_call 28; refine (back_any _ _ (u64_nonneg _)).mono ?_; rintro e w' ⟨rfl, rfl⟩)
  go_ret
  exact ⟨ret_int (by simp only [u64w_eq]; unfold u64w wr; omega), rfl⟩
theorem rsub_any (a b : Int) (w : World) :
    Calls Try.prog 16 #[.int .i64 a, .int .i64 b] w fun e w' => e = .returned (.int .i64 (wr (a - b))) ∧ w = w' := by
  go_enter Try.func16, Try.ntmps16
  go_wp2_with (go_at_call 28; refine (back_any _ _ (u64_nonneg _)).mono ?_; rintro e w' ⟨rfl, rfl⟩)
  go_ret
  exact ⟨ret_int (by simp only [u64w_eq]; unfold u64w wr; omega), rfl⟩
theorem rmul_any (a b : Int) (w : World) :
    Calls Try.prog 18 #[.int .i64 a, .int .i64 b] w fun e w' => e = .returned (.int .i64 (wr (a * b))) ∧ w = w' := by
  go_enter Try.func18, Try.ntmps18
  go_wp2_with (go_at_call 28; refine (back_any _ _ (u64_nonneg _)).mono ?_; rintro e w' ⟨rfl, rfl⟩)
  go_ret
  exact ⟨ret_int (by simp only [u64w_eq]; exact wr_u64_mul a b), rfl⟩
theorem div_zero (a b : Int) (w : World) (h : (wr b == 0) = true) :
    Calls Try.prog 19 #[.int .i64 a, .int .i64 b] w fun e w' => e = .returned (.tuple #[.int .i64 0, .int .i64 10]) ∧ w = w' := by
  go_enter Try.func19, Try.ntmps19
  go_wp2_with (go_at_call 11; refine (wrap_any _ _).mono ?_; rintro e w' ⟨rfl, rfl⟩)
  go_ret2
  exact ⟨rfl, rfl⟩
theorem div_ok (a b : Int) (w : World) (h : (wr b == 0) = false) :
    Calls Try.prog 19 #[.int .i64 a, .int .i64 b] w fun e w' => e = .returned (.tuple #[.int .i64 (wr (Int.tdiv (wr a) (wr b))), .int .i64 0]) ∧ w = w' := by
  have h' : ¬ wr b = 0 := by simpa using h
  go_enter Try.func19, Try.ntmps19
  go_wp2_with (go_at_call 11; refine (wrap_any _ _).mono ?_; rintro e w' ⟨rfl, rfl⟩)
  go_ret2
  exact ⟨tup_int (wr_wrap _), rfl⟩
theorem mod_zero (a b : Int) (w : World) (h : (wr b == 0) = true) :
    Calls Try.prog 20 #[.int .i64 a, .int .i64 b] w fun e w' => e = .returned (.tuple #[.int .i64 0, .int .i64 10]) ∧ w = w' := by
  go_enter Try.func20, Try.ntmps20
  go_wp2_with (go_at_call 11; refine (wrap_any _ _).mono ?_; rintro e w' ⟨rfl, rfl⟩)
  go_ret2
  exact ⟨rfl, rfl⟩
theorem mod_ok (a b : Int) (w : World) (h : (wr b == 0) = false) :
    Calls Try.prog 20 #[.int .i64 a, .int .i64 b] w fun e w' => e = .returned (.tuple #[.int .i64 (Int.tmod (wr a) (wr b)), .int .i64 0]) ∧ w = w' := by
  have h' : ¬ wr b = 0 := by simpa using h
  go_enter Try.func20, Try.ntmps20
  go_wp2_with (go_at_call 11; refine (wrap_any _ _).mono ?_; rintro e w' ⟨rfl, rfl⟩)
  go_ret2
  exact ⟨rfl, rfl⟩
theorem rdiv_zero (a b : Int) (w : World) (h : (wr b == 0) = true) :
    Calls Try.prog 21 #[.int .i64 a, .int .i64 b] w fun e w' => e = .returned (.tuple #[.int .i64 0, .bool false]) ∧ w = w' := by
  go_enter Try.func21, Try.ntmps21
  go_wp2_with (go_at_call 12; refine (rwrap_any _ _).mono ?_; rintro e w' ⟨rfl, rfl⟩)
  go_ret2
  exact ⟨rfl, rfl⟩
theorem rmod_zero (a b : Int) (w : World) (h : (wr b == 0) = true) :
    Calls Try.prog 22 #[.int .i64 a, .int .i64 b] w fun e w' => e = .returned (.tuple #[.int .i64 0, .bool false]) ∧ w = w' := by
  go_enter Try.func22, Try.ntmps22
  go_wp2_with (go_at_call 12; refine (rwrap_any _ _).mono ?_; rintro e w' ⟨rfl, rfl⟩)
  go_ret2
  exact ⟨rfl, rfl⟩
theorem size_any (n : Int) (w : World) (hl : -4611686018427387904 ≤ n) (hh : n ≤ 4611686018427387903) :
    Calls Try.prog 29 #[.int .i64 n] w fun e w' => e = .returned (.int .u64 (sz n)) ∧ w = w' := by
  by_cases h : n < 0
  · have e : sz n = -n := by unfold sz; omega
    rw [e]; clear e
    exact size_neg n w h hl
  · have e : sz n = n := by unfold sz; omega
    rw [e]; clear e
    exact size_pos n w (by omega) hh
set_option maxHeartbeats 400000 in
theorem rdiv_ok (a b : Int) (w : World) (h : (wr b == 0) = false) :
    Calls Try.prog 21 #[.int .i64 a, .int .i64 b] w fun e w' => e = .returned (.tuple #[.int .i64 (wr (Int.tdiv (wr a) (wr b))), .bool true]) ∧ w = w' := by
  have h' : ¬ wr b = 0 := by simpa using h
  have h1 := sz_one (wr b) h'
  obtain ⟨h2, h3⟩ := sz_range (wr a) (wr_range a)
  obtain ⟨h4, h5⟩ := quo_range _ _ ⟨h2, h3⟩ h1
  by_cases ha : wr a < 0
  · have da : decide (wr a < 0) = true := by simpa using ha
    by_cases hb : wr b < 0
    · have db : decide (wr b < 0) = true := by simpa using hb
      go_enter Try.func21, Try.ntmps21
      go_wp2_with (first | (go_at_call 12; refine (rwrap_any _ _).mono ?_; rintro e w' ⟨rfl, rfl⟩) | (go_at_call 29; refine (size_any _ _ (wr_range _).1 (wr_range _).2).mono ?_; rintro e w' ⟨rfl, rfl⟩) | (go_at_call 28; refine (back_any _ _ (by first | omega | exact u64_nonneg _)).mono ?_; rintro e w' ⟨rfl, rfl⟩))
      go_ret2
      exact ⟨tup_int (by rw [tdiv_nn _ _ ha hb]), rfl⟩
    · have db : decide (wr b < 0) = false := by simpa using hb
      go_enter Try.func21, Try.ntmps21
      go_wp2_with (first | (go_at_call 12; refine (rwrap_any _ _).mono ?_; rintro e w' ⟨rfl, rfl⟩) | (go_at_call 29; refine (size_any _ _ (wr_range _).1 (wr_range _).2).mono ?_; rintro e w' ⟨rfl, rfl⟩) | (go_at_call 28; refine (back_any _ _ (by first | omega | exact u64_nonneg _)).mono ?_; rintro e w' ⟨rfl, rfl⟩))
      go_ret2
      exact ⟨tup_int (by rw [tdiv_np _ _ ha (by omega), u64w_eq, wr_u64w]), rfl⟩
  · have da : decide (wr a < 0) = false := by simpa using ha
    by_cases hb : wr b < 0
    · have db : decide (wr b < 0) = true := by simpa using hb
      go_enter Try.func21, Try.ntmps21
      go_wp2_with (first | (go_at_call 12; refine (rwrap_any _ _).mono ?_; rintro e w' ⟨rfl, rfl⟩) | (go_at_call 29; refine (size_any _ _ (wr_range _).1 (wr_range _).2).mono ?_; rintro e w' ⟨rfl, rfl⟩) | (go_at_call 28; refine (back_any _ _ (by first | omega | exact u64_nonneg _)).mono ?_; rintro e w' ⟨rfl, rfl⟩))
      go_ret2
      exact ⟨tup_int (by rw [tdiv_pn _ _ (by omega) hb, u64w_eq, wr_u64w]), rfl⟩
    · have db : decide (wr b < 0) = false := by simpa using hb
      go_enter Try.func21, Try.ntmps21
      go_wp2_with (first | (go_at_call 12; refine (rwrap_any _ _).mono ?_; rintro e w' ⟨rfl, rfl⟩) | (go_at_call 29; refine (size_any _ _ (wr_range _).1 (wr_range _).2).mono ?_; rintro e w' ⟨rfl, rfl⟩) | (go_at_call 28; refine (back_any _ _ (by first | omega | exact u64_nonneg _)).mono ?_; rintro e w' ⟨rfl, rfl⟩))
      go_ret2
      exact ⟨tup_int (by rw [tdiv_pp _ _ (by omega) (by omega)]), rfl⟩
set_option maxHeartbeats 400000 in
theorem rmod_ok (a b : Int) (w : World) (h : (wr b == 0) = false) :
    Calls Try.prog 22 #[.int .i64 a, .int .i64 b] w fun e w' => e = .returned (.tuple #[.int .i64 (Int.tmod (wr a) (wr b)), .bool true]) ∧ w = w' := by
  have h' : ¬ wr b = 0 := by simpa using h
  have h1 := sz_one (wr b) h'
  obtain ⟨h2, h3⟩ := sz_range (wr a) (wr_range a)
  obtain ⟨h4, h5⟩ := rem_range _ _ ⟨h2, h3⟩ h1
  by_cases ha : wr a < 0
  · go_enter Try.func22, Try.ntmps22
    go_wp2_with (first | (go_at_call 12; refine (rwrap_any _ _).mono ?_; rintro e w' ⟨rfl, rfl⟩) | (go_at_call 29; refine (size_any _ _ (wr_range _).1 (wr_range _).2).mono ?_; rintro e w' ⟨rfl, rfl⟩))
    go_ret2
    exact ⟨tup_int (by rw [tmod_n _ _ ha]), rfl⟩
  · go_enter Try.func22, Try.ntmps22
    go_wp2_with (first | (go_at_call 12; refine (rwrap_any _ _).mono ?_; rintro e w' ⟨rfl, rfl⟩) | (go_at_call 29; refine (size_any _ _ (wr_range _).1 (wr_range _).2).mono ?_; rintro e w' ⟨rfl, rfl⟩))
    go_ret2
    exact ⟨tup_int (by rw [tmod_p _ _ (by omega)]), rfl⟩
end Go.Proofs.Ytblklhjmbhdhnaa
