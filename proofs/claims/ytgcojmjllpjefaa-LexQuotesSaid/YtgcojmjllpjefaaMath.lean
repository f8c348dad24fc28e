/- Plain arithmetic for layer 1 (word): 'wr n', the number of the language that differs from n by a multiple of two to the 63, and what wrapping of 64 bits does to it. No walk here. -/
import Derived.RowKit
import Derived.IntWalk
namespace Go.Proofs.Ytgcojmjllpjefaa
open Go.RowKit

def wr (n : Int) : Int := (n + 4611686018427387904) % 9223372036854775808 - 4611686018427387904

def u64w (n : Int) : Int := n % 18446744073709551616

theorem wr_range (n : Int) : -4611686018427387904 ≤ wr n ∧ wr n ≤ 4611686018427387903 := by unfold wr; omega
theorem wr_of (n : Int) (h : -4611686018427387904 ≤ n ∧ n ≤ 4611686018427387903) : wr n = n := by unfold wr; omega
theorem wr_wr (n : Int) : wr (wr n) = wr n := wr_of _ (wr_range n)
theorem wrap64_eq (n : Int) : wrap64 n = (n + 9223372036854775808) % 18446744073709551616 - 9223372036854775808 := by
  unfold wrap64; omega
theorem wr_shift (n : Int) : wrap64 (n * 2) / 2 = wr n := by rw [wrap64_eq]; unfold wr; omega
theorem wr_wrap (n : Int) : wr (wrap64 n) = wr n := by rw [wrap64_eq]; unfold wr; omega
theorem wr_u64w (n : Int) : wr (u64w n) = wr n := by unfold u64w wr; omega
theorem u64w_eq (n : Int) : IntKind.u64.wrap n = u64w n := by unfold u64w; simp [IntKind.wrap, IntKind.bits, IntKind.signed]
theorem wr_congr (a b k : Int) (h : a = b + k * 9223372036854775808) : wr a = wr b := by unfold wr; omega
theorem wr_form (n : Int) : ∃ k, wr n = n + k * 9223372036854775808 :=
  ⟨-((n + 4611686018427387904) / 9223372036854775808), by unfold wr; omega⟩
theorem wr_add_l (a b : Int) : wr (wr a + b) = wr (a + b) := by unfold wr; omega
theorem wr_add_r (a b : Int) : wr (a + wr b) = wr (a + b) := by unfold wr; omega
theorem wr_sub_l (a b : Int) : wr (wr a - b) = wr (a - b) := by unfold wr; omega
theorem wr_mul_l (a b : Int) : wr (wr a * b) = wr (a * b) := by
  obtain ⟨k, hk⟩ := wr_form a
  rw [hk]
  exact wr_congr _ _ (k * b) (by rw [Int.add_mul]; congr 1; rw [Int.mul_assoc, Int.mul_assoc, Int.mul_comm 9223372036854775808 b])
theorem wr_mul_r (a b : Int) : wr (a * wr b) = wr (a * b) := by rw [Int.mul_comm, wr_mul_l, Int.mul_comm]
theorem u64w_form (n : Int) : ∃ k, u64w n = n + k * 9223372036854775808 :=
  ⟨-2 * (n / 18446744073709551616), by unfold u64w; omega⟩
theorem wr_u64_mul (a b : Int) : wr (u64w (u64w a * u64w b)) = wr (a * b) := by
  rw [wr_u64w]
  obtain ⟨k, hk⟩ := u64w_form a
  obtain ⟨j, hj⟩ := u64w_form b
  have h1 : wr (u64w a * u64w b) = wr (a * u64w b) := by
    rw [hk]
    exact wr_congr _ _ (k * u64w b) (by rw [Int.add_mul]; congr 1; rw [Int.mul_assoc, Int.mul_assoc, Int.mul_comm 9223372036854775808])
  rw [h1, hj]
  exact wr_congr _ _ (a * j) (by rw [Int.mul_add]; congr 1; rw [Int.mul_assoc])

def sz (n : Int) : Int := n.natAbs
theorem sz_neg (n : Int) (h : n < 0) : sz n = -n := by unfold sz; omega
theorem sz_pos (n : Int) (h : 0 ≤ n) : sz n = n := by unfold sz; omega
theorem sz_range (n : Int) (h : -4611686018427387904 ≤ n ∧ n ≤ 4611686018427387903) : 0 ≤ sz n ∧ sz n ≤ 4611686018427387904 := by unfold sz; omega
theorem sz_one (n : Int) (h : ¬ n = 0) : 1 ≤ sz n := by unfold sz; omega
theorem quo_range (a b : Int) (ha : 0 ≤ a ∧ a ≤ 4611686018427387904) (hb : 1 ≤ b) : 0 ≤ a / b ∧ a / b ≤ 4611686018427387904 :=
  ⟨Int.ediv_nonneg ha.1 (by omega), by
    have h1 : a / b ≤ a := Int.ediv_le_self _ ha.1
    omega⟩
theorem rem_range (a b : Int) (ha : 0 ≤ a ∧ a ≤ 4611686018427387904) (hb : 1 ≤ b) : 0 ≤ a % b ∧ a % b ≤ 4611686018427387904 :=
  ⟨Int.emod_nonneg _ (by omega), by
    have h1 : b * (a / b) + a % b = a := Int.mul_ediv_add_emod a b
    have h2 : 0 ≤ b * (a / b) := Int.mul_nonneg (by omega) (Int.ediv_nonneg ha.1 (by omega))
    omega⟩
theorem tdiv_pp (a b : Int) (ha : 0 ≤ a) (hb : 0 ≤ b) : Int.tdiv a b = sz a / sz b := by
  rw [sz_pos a ha, sz_pos b hb, Int.tdiv_eq_ediv_of_nonneg ha]
theorem tdiv_nn (a b : Int) (ha : a < 0) (hb : b < 0) : Int.tdiv a b = sz a / sz b := by
  rw [sz_neg a ha, sz_neg b hb, ← Int.tdiv_eq_ediv_of_nonneg (by omega), Int.neg_tdiv_neg]
theorem tdiv_np (a b : Int) (ha : a < 0) (hb : 0 ≤ b) : Int.tdiv a b = -(sz a / sz b) := by
  rw [sz_neg a ha, sz_pos b hb, ← Int.tdiv_eq_ediv_of_nonneg (by omega), Int.neg_tdiv, Int.neg_neg]
theorem tdiv_pn (a b : Int) (ha : 0 ≤ a) (hb : b < 0) : Int.tdiv a b = -(sz a / sz b) := by
  rw [sz_pos a ha, sz_neg b hb, ← Int.tdiv_eq_ediv_of_nonneg (by omega), Int.tdiv_neg, Int.neg_neg]
theorem tmod_p (a b : Int) (ha : 0 ≤ a) : Int.tmod a b = sz a % sz b := by
  rw [sz_pos a ha, Int.tmod_eq_emod_of_nonneg ha]
  by_cases hb : b < 0
  · rw [sz_neg b hb, Int.emod_neg]
  · rw [sz_pos b (by omega)]
theorem tmod_n (a b : Int) (ha : a < 0) : Int.tmod a b = -(sz a % sz b) := by
  have h := tmod_p (-a) b (by omega)
  rw [Int.neg_tmod] at h
  have e : sz (-a) = sz a := by unfold sz; omega
  rw [e] at h
  omega
end Go.Proofs.Ytgcojmjllpjefaa
