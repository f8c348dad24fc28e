/- The contracts of the program's small functions: below, allows, binds, rightKids. -/
import Derived.Test.YtlalnmefppbebaaSynA
import Derived.Test.YtlalnmefppbebaaDeep
import Derived.Test.YtlalnmefppbebaaOwn
import Derived.Test.YtlalnmefppbebaaMake
import Derived.BigQuiet
import Derived.Deep.QuietTactic
namespace Go.Proofs.Ytlalnmefppbebaa
open Go.RowKit Go.Proofs.TreeMath
/-- A function that reckons. -/
def Pure (v : Value) (W : World) (e : Ending) (w' : World) : Prop := e = .returned v ∧ W = w'
def RB (b : Bool) (W : World) (e : Ending) (w' : World) : Prop := e = .returned (.bool b) ∧ Below W.heap.size W w'
def RI (x : Int) (W : World) (e : Ending) (w' : World) : Prop := e = .returned (.int .i64 x) ∧ Below W.heap.size W w'
theorem ret_i {a b : Int} (h : a = b) : Ending.returned (.int .i64 a) = Ending.returned (.int .i64 b) := by rw [h]
theorem ret_b {a b : Bool} (h : a = b) : Ending.returned (.bool a) = Ending.returned (.bool b) := by rw [h]
theorem below_any (p kind : Int) (i : Nat) (w : World) : Calls Try.prog 67 #[.int .i64 p, .int .i64 kind, .int .i64 (i : Int)] w (Pure (.int .i64 (belowP p kind i)) w) := by
  go_enter Try.func67, Try.ntmps67
  go_wp2
  all_goals go_ret
  all_goals (refine ⟨ret_i ?_, rfl⟩; simp_all [belowP])
  all_goals omega
theorem allows_any (p kind : Int) (w : World) : Calls Try.prog 72 #[.int .i64 p, .int .i64 kind] w (Pure (.bool (allowsB p kind)) w) := by
  go_enter Try.func72, Try.ntmps72
  go_wp2
  all_goals go_ret
  all_goals (refine ⟨ret_b ?_, rfl⟩; simp_all [allowsB])
  all_goals omega
theorem binds_any (kind : Int) (i : Nat) (w : World) : Calls Try.prog 68 #[.int .i64 kind, .int .i64 (i : Int)] w (Pure (.bool (bindsB kind i)) w) := by
  go_enter Try.func68, Try.ntmps68
  go_wp2
  all_goals go_ret
  all_goals (refine ⟨ret_b ?_, rfl⟩; simp_all [bindsB])
  all_goals (rw [Bool.eq_iff_iff]; simp; omega)
/-- A node's cells in a block of its own. -/
theorem node_box (w : World) (n : Nd) : (w.alloc (.cells #[.int .i64 n.kind, .string n.text, .int .i64 n.num, .int .i64 n.kids] 42)).heap[w.heap.size]? = some (.cells #[.int .i64 n.kind, .string n.text, .int .i64 n.num, .int .i64 n.kids] 42 (0, 0)) := by
  show (w.heap.push _)[w.heap.size]? = _
  simp
set_option maxHeartbeats 1000000 in
theorem rightKids_any (n : Nd) (w : World) : Calls Try.prog 74 #[n.val] w (RB (kidsB n.kind n.kids) w) := by
  obtain ⟨k, s, m, d⟩ := n
  unfold Nd.val
  simp only
  go_enter Try.func74, Try.ntmps74
  go_wp2
  all_goals go_ret
  all_goals (refine ⟨ret_b ?_, (Below.refl _ _).alloc (Nat.le_refl _) _⟩; simp_all [kidsB])
  all_goals first | omega | (rw [Bool.eq_iff_iff]; simp)
end Go.Proofs.Ytlalnmefppbebaa
