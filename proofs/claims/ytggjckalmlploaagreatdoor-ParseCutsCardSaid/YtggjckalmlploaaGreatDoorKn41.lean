/- Texts of this seat, one behind the other: SynB. -/
import Derived.Test.YtggjckalmlploaaGreatDoorKn39
import Derived.Test.YtggjckalmlploaaGreatDoorKn40
import Derived.Test.YtggjckalmlploaaGreatDoorKn02
import Derived.Test.YtggjckalmlploaaGreatDoorKn03
import Derived.BigQuiet
import Derived.Deep.QuietTactic
/- The contracts of the program's small functions: below, allows, binds, rightKids. -/
set_option maxRecDepth 100000
namespace Go.Proofs.YtggjckalmlploaaGreatDoor
open Go.RowKit Go.Proofs.TreeMath
/-- A function that reckons. -/
def Pure (v : Value) (W : World) (e : Ending) (w' : World) : Prop := e = .returned v ∧ W = w'
def RB (b : Bool) (W : World) (e : Ending) (w' : World) : Prop := e = .returned (.bool b) ∧ Below W.heap.size W w'
def RI (x : Int) (W : World) (e : Ending) (w' : World) : Prop := e = .returned (.int .i64 x) ∧ Below W.heap.size W w'
theorem ret_i {a b : Int} (h : a = b) : Ending.returned (.int .i64 a) = Ending.returned (.int .i64 b) := by rw [h]
theorem ret_b {a b : Bool} (h : a = b) : Ending.returned (.bool a) = Ending.returned (.bool b) := by rw [h]
theorem below_any (p kind : Int) (i : Nat) (w : World) : Calls Tryz.prog 58 #[.int .i64 p, .int .i64 kind, .int .i64 (i : Int)] w (Pure (.int .i64 (belowP p kind i)) w) := by
  go_enter Tryz.func58, Tryz.ntmps58
  go_wp2
  all_goals go_ret
  all_goals (refine ⟨ret_i ?_, rfl⟩; simp_all [belowP])
  all_goals omega
theorem allows_any (p kind : Int) (w : World) : Calls Tryz.prog 59 #[.int .i64 p, .int .i64 kind] w (Pure (.bool (allowsB p kind)) w) := by
  go_enter Tryz.func59, Tryz.ntmps59
  go_wp2
  all_goals go_ret
  all_goals (refine ⟨ret_b ?_, rfl⟩; simp_all [allowsB])
  all_goals omega
set_option maxHeartbeats 1000000 in
theorem rightKids_any (n : Nd) (w : World) : Calls Tryz.prog 61 #[n.val] w (RB (kidsB n.kind n.kids) w) := by
  obtain ⟨k, s, m, d⟩ := n
  unfold Nd.val
  simp only
  go_enter Tryz.func61, Tryz.ntmps61
  go_wp2
  all_goals go_ret
  all_goals (refine ⟨ret_b ?_, (Below.refl _ _).alloc (Nat.le_refl _) _⟩; simp_all [kidsB])
  all_goals first | omega | (rw [Bool.eq_iff_iff]; simp)
end Go.Proofs.YtggjckalmlploaaGreatDoor
