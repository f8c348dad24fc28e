/- The document's node: what is wrong with one. -/
import Derived.Test.YtlalnmefppbebaaSynN
import Derived.Test.YtlalnmefppbebaaSynD
import Derived.Test.YtlalnmefppbebaaRefKids
import Derived.BigQuiet
namespace Go.Proofs.Ytlalnmefppbebaa
open Go.RowKit Go.Proofs.TreeMath
open Go.Proofs.Ytlalnmefppbebaa.Lx (quiet_left quiet_same_left below_drewN)
def sortR (kind : Int) : Int :=
  if kind = 1 ∨ kind = 6 ∨ kind = 9 ∨ kind = 10 ∨ kind = 11 ∨ kind = 21 ∨ kind = 23 then 0
  else if kind = 3 ∨ kind = 5 ∨ kind = 7 ∨ kind = 8 ∨ kind = 12 ∨ kind = 22 then 1
  else if kind = 4 ∨ kind = 24 then 2
  else if kind = 2 then 3
  else -1
theorem rsort_any (k : Int) (w : World) : Calls Try.prog 76 #[.int .i64 k] w (Pure (.int .i64 (sortR k)) w) := by
  go_enter Try.func76, Try.ntmps76
  go_wp2
  all_goals go_ret
  all_goals (refine ⟨ret_i ?_, rfl⟩; simp_all [sortR])
theorem rkids_any (k d : Int) (w : World) : Calls Try.prog 77 #[.int .i64 k, .int .i64 d] w (Pure (.bool (kidsB k d)) w) := by
  go_enter Try.func77, Try.ntmps77
  go_wp2
  all_goals go_ret
  all_goals (refine ⟨ret_b ?_, rfl⟩; simp_all [kidsB])
  all_goals first | omega | (rw [Bool.eq_iff_iff]; simp)
def isPatB (k : Int) : Bool := decide (21 ≤ k) && decide (k ≤ 24)
def pl (pat : Bool) : Int := if pat then 1 else 0
theorem kind_cases (k : Int) : (1 ≤ k ∧ k ≤ 12) ∨ (21 ≤ k ∧ k ≤ 24) ∨ (sortR k = -1 ∧ ∀ p, allowsB p k = false) := by
  by_cases h1 : 1 ≤ k ∧ k ≤ 12
  · exact .inl h1
  by_cases h2 : 21 ≤ k ∧ k ≤ 24
  · exact .inr (.inl h2)
  refine .inr (.inr ⟨?_, fun p => ?_⟩)
  · unfold sortR
    rw [if_neg (by omega), if_neg (by omega), if_neg (by omega), if_neg (by omega)]
  · unfold allowsB
    split
    · rw [Bool.and_eq_false_iff]; simp; omega
    · rw [Bool.and_eq_false_iff]; simp; omega
theorem allows_sort (k : Int) (pat : Bool) (h : sortR k ≠ -1) : allowsB (pl pat) k = !(isPatB k != pat) := by
  rcases kind_cases k with hk | hk | hk
  · have : k = 1 ∨ k = 2 ∨ k = 3 ∨ k = 4 ∨ k = 5 ∨ k = 6 ∨ k = 7 ∨ k = 8 ∨ k = 9 ∨ k = 10 ∨ k = 11 ∨ k = 12 := by omega
    rcases this with rfl | rfl | rfl | rfl | rfl | rfl | rfl | rfl | rfl | rfl | rfl | rfl <;> cases pat <;> decide
  · have : k = 21 ∨ k = 22 ∨ k = 23 ∨ k = 24 := by omega
    rcases this with rfl | rfl | rfl | rfl <;> cases pat <;> decide
  · exact absurd hk.1 h
theorem sort_kinds (k : Int) : (sortR k = 0 → sortN k = 0 ∧ k ≠ 8) ∧ (sortR k = 1 → sortN k = 1 ∧ k ≠ 1 ∧ k ≠ 23) ∧ (sortR k = 2 → sortN k = 2 ∧ k ≠ 8 ∧ k ≠ 1 ∧ k ≠ 23) ∧ (sortR k = 3 → sortN k = 3 ∧ k ≠ 8 ∧ k ≠ 1 ∧ k ≠ 23) ∧ (sortR k = -1 ∨ sortR k = 0 ∨ sortR k = 1 ∨ sortR k = 2 ∨ sortR k = 3) := by
  rcases kind_cases k with hk | hk | hk
  · have : k = 1 ∨ k = 2 ∨ k = 3 ∨ k = 4 ∨ k = 5 ∨ k = 6 ∨ k = 7 ∨ k = 8 ∨ k = 9 ∨ k = 10 ∨ k = 11 ∨ k = 12 := by omega
    rcases this with rfl | rfl | rfl | rfl | rfl | rfl | rfl | rfl | rfl | rfl | rfl | rfl <;> decide
  · have : k = 21 ∨ k = 22 ∨ k = 23 ∨ k = 24 := by omega
    rcases this with rfl | rfl | rfl | rfl <;> decide
  · rw [hk.1]
    exact ⟨fun h => by omega, fun h => by omega, fun h => by omega, fun h => by omega, .inl rfl⟩
theorem text_nn {s : ByteArray} (h : ¬ s = ByteArray.empty) : ¬ s.toList = [] := by
  intro h'
  rw [ByteArray.toList_eq] at h'
  obtain ⟨data⟩ := s
  have hd : data = #[] := by simpa using h'
  subst hd
  exact h rfl
theorem text_nn2 {s : ByteArray} (h : ¬ s = ByteArray.empty) : s.toList.isEmpty = false := by
  cases hc : s.toList with
  | nil => exact absurd hc (text_nn h)
  | cons _ _ => rfl
theorem kids_8 {k d : Int} (h : k = 8) (hy : kidsB k d = true) : d = 2 := by
  subst h
  simpa [kidsB] using hy
end Go.Proofs.Ytlalnmefppbebaa
