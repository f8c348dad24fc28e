/- The contracts of word.Sum and of the laws' own check of the chapter's examples ('awake'): it answers true, and nothing that was there is written. -/
import Derived.Test.YtblklhjmbhdhnaaRead
namespace Go.Proofs.Ytblklhjmbhdhnaa
open Go.RowKit

def sumw (l : List Int) : Int := l.foldl (fun s n => wr (s + n)) 0
theorem sumw_snoc (l : List Int) (n : Int) : sumw (l ++ [n]) = wr (sumw l + n) := by simp [sumw, List.foldl_append]
theorem sumw_take (l : List Int) (k : Nat) (h : k < l.length) : sumw (l.take (k + 1)) = wr (sumw (l.take k) + l.getD k 0) := by
  rw [List.take_succ_eq_append_getElem h, sumw_snoc]
  simp [List.getD, h]

theorem sum_nil (w : World) :
    Calls Try.prog 27 #[.slice none 0 0] w fun e w' => e = .returned (.int .i64 0) ∧ w = w' := by
  go_enter Try.func27, Try.ntmps27
  go_wp2
  refine wp_loop_rounds 1 ?_
  rw [rounds_succ]
  go_wp2
  go_ret
  exact ⟨rfl, rfl⟩
theorem sum_row (b off len cap : Nat) (zs : List Int) (w : World) (hl : len ≤ zs.length) (hm : len ≤ 9223372036854775807)
    (hc : ∀ i, i < len → w.cell? ⟨b, off + i, none⟩ = some (.int .i64 (zs.getD i 0))) :
    Calls Try.prog 27 #[.slice (some ⟨b, off, none⟩) len cap] w fun e w' => e = .returned (.int .i64 (sumw (zs.take len))) ∧ w = w' := by
  go_enter Try.func27, Try.ntmps27
  go_wp2
  go_loop [3, 8] (fun a i => ∃ k : Nat, k ≤ len ∧ i = .int .i64 k ∧ a = .int .i64 (sumw (zs.take k))) (fun _ i => len - (intOf i).toNat)
  case atStart => exact ⟨0, Nat.zero_le _, rfl, rfl⟩
  case round =>
    obtain ⟨k, hk, rfl, rfl⟩ := hrel
    by_cases hlt : k < len
    · have hcell := hc k hlt
      have N : Hid (sumw (zs.take (k + 1)) = wr (sumw (zs.take k) + zs.getD k 0)) := sumw_take zs k (by omega)
      clear hc
      go_wp2_with (go_at_call 13; refine (add_any _ _ _).mono ?_; rintro e w' ⟨rfl, rfl⟩)
      go_round
      case rel => exact ⟨k + 1, by omega, by go_num, by rw [N.out]; simp [List.getD]⟩
      case measure => simp [intOf]; omega
    · clear hc
      go_wp2
      go_ret
      obtain rfl : k = len := by omega
      exact ⟨rfl, rfl⟩
theorem calls_to {f : Nat} {args : Array Value} {w : World} {v v' : Ending} (e : v = v') (h : Calls Try.prog f args w fun e w' => e = v ∧ w = w') : Calls Try.prog f args w fun e w' => e = v' ∧ w = w' := e ▸ h
theorem c_div (w : World) : Calls Try.prog 19 #[.int .i64 (-7), .int .i64 2] w fun e w' => e = .returned (.tuple #[.int .i64 (-3), .int .i64 0]) ∧ w = w' :=
  calls_to (tup_int (by decide)) (div_ok (-7) 2 w (by decide))
theorem c_mod (w : World) : Calls Try.prog 20 #[.int .i64 (-7), .int .i64 2] w fun e w' => e = .returned (.tuple #[.int .i64 (-1), .int .i64 0]) ∧ w = w' :=
  calls_to (tup_int (by decide)) (mod_ok (-7) 2 w (by decide))
theorem c_dz (w : World) : Calls Try.prog 19 #[.int .i64 1, .int .i64 0] w fun e w' => e = .returned (.tuple #[.int .i64 0, .int .i64 10]) ∧ w = w' :=
  div_zero 1 0 w (by decide)
theorem shw5 : shw (-5) = ⟨#[126, 53]⟩ := by decide
theorem c_read (w : World) : Calls Try.prog 24 #[.string ⟨#[126, 53]⟩] w fun e w' => e = .returned (.tuple #[.int .i64 (-5), .int .i64 0]) ∧ Below w.heap.size w w' := by
  have h := read_yes (-5) w (by omega) (by omega)
  rw [shw5] at h
  exact h
theorem c_show (w : World) : Calls Try.prog 23 #[.int .i64 (-5)] w fun e w' => e = .returned (.string ⟨#[126, 53]⟩) ∧ Below w.heap.size w w' := by
  have h := show_any (-5) w
  rw [show wr (-5) = -5 from by decide, shw5] at h
  exact h
theorem c_add (w : World) : Calls Try.prog 13 #[.int .i64 4611686018427387903, .int .i64 1] w fun e w' => e = .returned (.int .i64 (-4611686018427387904)) ∧ w = w' :=
  calls_to (ret_int (by decide)) (add_any _ _ w)
theorem c_mul (w : World) : Calls Try.prog 17 #[.int .i64 3, .int .i64 4] w fun e w' => e = .returned (.int .i64 12) ∧ w = w' := calls_to (ret_int (by decide)) (mul_any _ _ w)
theorem c_sub (w : World) : Calls Try.prog 15 #[.int .i64 3, .int .i64 4] w fun e w' => e = .returned (.int .i64 (-1)) ∧ w = w' := calls_to (ret_int (by decide)) (sub_any _ _ w)
theorem c_wrap (w : World) : Calls Try.prog 11 #[.int .i64 7] w fun e w' => e = .returned (.int .i64 7) ∧ w = w' := calls_to (ret_int (by decide)) (wrap_any _ w)

theorem c_sum (w : World) : Calls Try.prog 27 #[.slice (some ⟨w.heap.size, 0, none⟩) 3 3] (w.alloc (.cells #[.int .i64 1, .int .i64 2, .int .i64 3] 2))
    fun e w' => e = .returned (.int .i64 6) ∧ w.alloc (.cells #[.int .i64 1, .int .i64 2, .int .i64 3] 2) = w' := by
  refine calls_to (ret_int (by decide)) (sum_row w.heap.size 0 3 3 [1, 2, 3] _ (by simp) (by omega) ?_)
  intro i hi
  have h := heap_alloc_new w (.cells #[.int .i64 1, .int .i64 2, .int .i64 3] 2)
  have hi' : i = 0 ∨ i = 1 ∨ i = 2 := by omega
  rcases hi' with rfl | rfl | rfl <;> (unfold World.cell?; rw [h]; rfl)

theorem awake_any (w : World) :
    Calls Try.prog 10 #[] w fun e w' => e = .returned (.bool true) ∧ Below w.heap.size w w' := by
  go_enter Try.func10, Try.ntmps10
  go_wp2_with fail
  refine (c_div _).mono ?_
  rintro e w' ⟨rfl, rfl⟩
  go_wp2_with fail
  refine (c_mod _).mono ?_
  rintro e w' ⟨rfl, rfl⟩
  go_wp2_with fail
  refine (c_read _).mono ?_
  rintro e w1 ⟨rfl, b1⟩
  go_wp2_with fail
  refine (c_dz _).mono ?_
  rintro e w' ⟨rfl, rfl⟩
  go_wp2_with fail
  refine (c_add _).mono ?_
  rintro e w' ⟨rfl, rfl⟩
  go_wp2_with fail
  refine (c_show _).mono ?_
  rintro e w2 ⟨rfl, b2⟩
  go_wp2_with fail
  refine (c_mul _).mono ?_
  rintro e w' ⟨rfl, rfl⟩
  go_wp2_with fail
  refine (c_sub _).mono ?_
  rintro e w' ⟨rfl, rfl⟩
  go_wp2_with fail
  refine (c_sum _).mono ?_
  rintro e w' ⟨rfl, rfl⟩
  go_wp2_with fail
  refine (c_wrap _).mono ?_
  rintro e w' ⟨rfl, rfl⟩
  go_wp2_with fail
  go_ret
  exact ⟨rfl, (b1.trans (b2.mono b1.size)).alloc (Nat.le_trans b1.size b2.size) _⟩
end Go.Proofs.Ytblklhjmbhdhnaa
