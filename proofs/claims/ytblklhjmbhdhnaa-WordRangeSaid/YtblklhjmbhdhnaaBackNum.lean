/- Plain arithmetic for the law WordBack: quotient and remainder give back what was divided, and the remainder is nearer to nought than the divisor. No walk here. -/
import Derived.Test.YtblklhjmbhdhnaaMath
namespace Go.Proofs.Ytblklhjmbhdhnaa
theorem back_sum (a b : Int) : wr (wr (wr (Int.tdiv (wr a) (wr b)) * b) + Int.tmod (wr a) (wr b)) = wr a := by
  rw [wr_add_l]
  have h1 : wr (wr (Int.tdiv (wr a) (wr b)) * b + Int.tmod (wr a) (wr b)) = wr (Int.tdiv (wr a) (wr b) * wr b + Int.tmod (wr a) (wr b)) := by
    rw [← wr_add_l, wr_mul_l, ← wr_mul_r, wr_add_l]
  rw [h1, Int.mul_comm, Int.mul_tdiv_add_tmod, wr_wr]
theorem tmod_lt (x y : Int) (h : ¬ y = 0) : -sz y < Int.tmod x y ∧ Int.tmod x y < sz y := by
  have h1 := sz_one y h
  have h2 : 0 ≤ sz x % sz y := Int.emod_nonneg _ (by omega)
  have h3 : sz x % sz y < sz y := Int.emod_lt_of_pos _ (by omega)
  by_cases hx : x < 0
  · rw [tmod_n x y hx]; omega
  · rw [tmod_p x y (by omega)]; omega
theorem tmod_sign (x y : Int) (h : ¬ y = 0) : (x < 0 → Int.tmod x y ≤ 0) ∧ (0 ≤ x → 0 ≤ Int.tmod x y) := by
  have h1 := sz_one y h
  have h2 : 0 ≤ sz x % sz y := Int.emod_nonneg _ (by omega)
  exact ⟨fun hx => by rw [tmod_n x y hx]; omega, fun hx => by rw [tmod_p x y hx]; omega⟩
end Go.Proofs.Ytblklhjmbhdhnaa
