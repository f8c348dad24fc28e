/- Contracts of the functions of layer 1 that only reckon with numbers, over the translated program: what each one answers, and that it leaves the world alone. -/
import Derived.Test.YtgcojmjllpjefaaRows
import Derived.Test.YtgcojmjllpjefaaMath
import Derived.WalkKit
import Derived.ProofKit
import Derived.OpenShut
namespace Go.Proofs.Ytgcojmjllpjefaa
open Go.RowKit

theorem ret_int {k : IntKind} {a b : Int} (h : a = b) : Ending.returned (.int k a) = .returned (.int k b) := by rw [h]

theorem tup_int {a b : Int} {v : Value} (h : a = b) : Ending.returned (.tuple #[.int .i64 a, v]) = .returned (.tuple #[.int .i64 b, v]) := by rw [h]

theorem wrap_any (n : Int) (w : World) :
    Calls Try.prog 35 #[.int .i64 n] w fun e w' => e = .returned (.int .i64 (wr n)) ∧ w = w' := by
  go_enter Try.func35, Try.ntmps35
  go_wp2
  go_ret
  exact ⟨ret_int (wr_shift n), rfl⟩
theorem u64_nonneg (n : Int) : 0 ≤ IntKind.u64.wrap n := by rw [u64w_eq]; unfold u64w; omega
theorem back_any (n : Int) (w : World) (h0 : 0 ≤ n) :
    Calls Try.prog 58 #[.int .u64 n] w fun e w' => e = .returned (.int .i64 (wr n)) ∧ w = w' := by
  go_enter Try.func58, Try.ntmps58
  go_wp2
  all_goals
    go_ret
    exact ⟨ret_int (by unfold wr; omega), rfl⟩
theorem size_neg (n : Int) (w : World) (h : n < 0) (hl : -4611686018427387904 ≤ n) :
    Calls Try.prog 60 #[.int .i64 n] w fun e w' => e = .returned (.int .u64 (-n)) ∧ w = w' := by
  go_enter Try.func60, Try.ntmps60
  go_wp2
  go_ret
  exact ⟨rfl, rfl⟩
theorem size_pos (n : Int) (w : World) (h : 0 ≤ n) (hl : n ≤ 4611686018427387903) :
    Calls Try.prog 60 #[.int .i64 n] w fun e w' => e = .returned (.int .u64 n) ∧ w = w' := by
  go_enter Try.func60, Try.ntmps60
  go_wp2
  go_ret
  exact ⟨rfl, rfl⟩
theorem rwrap_any (a : Int) (w : World) :
    Calls Try.prog 39 #[.int .i64 a] w fun e w' => e = .returned (.int .i64 (wr a)) ∧ w = w' := by
  go_enter Try.func39, Try.ntmps39
  go_wp2_with (go_at_call 58; refine (back_any _ _ (u64_nonneg _)).mono ?_; rintro e w' ⟨rfl, rfl⟩)
  go_ret
  exact ⟨ret_int (by rw [u64w_eq, wr_u64w]), rfl⟩
theorem size_any (n : Int) (w : World) (hl : -4611686018427387904 ≤ n) (hh : n ≤ 4611686018427387903) :
    Calls Try.prog 60 #[.int .i64 n] w fun e w' => e = .returned (.int .u64 (sz n)) ∧ w = w' := by
  by_cases h : n < 0
  · have e : sz n = -n := by unfold sz; omega
    rw [e]; clear e
    exact size_neg n w h hl
  · have e : sz n = n := by unfold sz; omega
    rw [e]; clear e
    exact size_pos n w (by omega) hh
end Go.Proofs.Ytgcojmjllpjefaa
