/- The contract of the document's own Right: whether a token may be. -/
import Derived.Test.YtkmgapieoedelaaRefA
import Derived.Test.YtkmgapieoedelaaRead
import Derived.Deep.QuietTactic
import Derived.BigQuiet
import Derived.Deep.RegionHeld3
namespace Go.Proofs.Ytkmgapieoedelaa
open Go.RowKit Go.Proofs.LexMath

theorem while_0 (s : ByteArray) (lo hi : Int) (w : World) (hs : s.size ≤ 100000000) :
    Calls Try.prog 50 #[.string s, .int .i64 0, .int .i64 lo, .int .i64 hi] w fun e w' => e = .returned (.int .i64 ((run (kp lo hi) s.data.toList : Nat) : Int)) ∧ w = w' := by
  have h := while_any s 0 lo hi w (Nat.zero_le _) hs
  rw [Nat.zero_add, List.drop_zero] at h
  exact h
theorem isw_run (p q : Int → Bool) (s : ByteArray) (h : 0 < s.size) (hpq : ∀ r, p r = true → q r = true) : isw p q s.data.toList = (p (s[0].toNat : Int) && (((run q s.data.toList : Nat) : Int) == (s.size : Int))) := by
  rw [isw_at p q s h]
  cases hp : p (s[0].toNat : Nat) with
  | false => rfl
  | true =>
    have e := (run_at q s 0 h).1 (hpq _ hp)
    rw [List.drop_zero, Nat.zero_add, Nat.zero_add] at e
    rw [e, Bool.true_and, Bool.true_and, Bool.eq_iff_iff, decide_eq_true_eq, beq_iff_eq]
theorem isw_5 (s : ByteArray) (h : 0 < s.size) : isw opr opr s.data.toList = (((run opr s.data.toList : Nat) : Int) == (s.size : Int)) := by
  rw [isw_run opr opr s h (fun _ h => h)]
  cases hp : opr (s[0].toNat : Int) with
  | true => rfl
  | false =>
    rw [Bool.false_and, eq_comm, Bool.eq_false_iff]
    intro e
    rw [beq_iff_eq] at e
    have := (run_at opr s 0 h).2 hp
    rw [List.drop_zero] at this
    omega
theorem empty_of {s : ByteArray} (h : 0 < s.size) : s.toList.isEmpty = false := by
  rw [ByteArray.toList_eq]
  cases hx : s.data.toList with
  | nil => have : s.data.toList.length = s.size := rfl; rw [hx] at this; simp at this; omega
  | cons => rfl
theorem emp_of {s : ByteArray} (h : 0 < s.size) : (!s.toList.isEmpty) = true ∧ ¬ s.toList = [] := by
  have em := empty_of h
  exact ⟨by rw [em]; rfl, fun h => by rw [h] at em; cases em⟩
set_option maxRecDepth 100000 in
set_option maxHeartbeats 1000000 in
theorem rzero_5 (s : ByteArray) (a : Int) (w : World) (ha : 0 ≤ a) (e : s.toList = []) :
    Calls Try.prog 32 #[tokV ⟨5, s, 0, a⟩] w (RB false w) := by
  unfold tokV
  have ha0 : decide (a < 0) = false := by simpa using ha
  go_enter Try.func32, Try.ntmps32
  go_wp2
  go_ret
  exact ⟨rfl, (Below.refl _ _).alloc (Nat.le_refl _) _⟩
set_option maxRecDepth 100000 in
set_option maxHeartbeats 1000000 in
theorem rright_5 (s : ByteArray) (a : Int) (w : World) (hs : s.size ≤ 100000000) (ha : 0 ≤ a) (h0 : 0 < s.size) (x2 y : Bool) (h2 : Hid ((((run opr s.data.toList : Nat) : Int) == (s.size : Int)) = x2)) (hy : Hid (key s.data.toList = y)) :
    Calls Try.prog 32 #[tokV ⟨5, s, 0, a⟩] w (RB (x2 && !y) w) := by
  unfold tokV
  have ha0 : decide (a < 0) = false := by simpa using ha
  obtain ⟨em2, em3⟩ := emp_of h0
  have K := fun W => rkey_any s W
  rw [hy.out] at K
  have KEYH := Lib.hid K
  have S := fun W => while_0 s 5 5 W hs
  rw [kp_opr] at S
  have h2 := h2.out
  generalize run opr s.data.toList = m at *
  have SS := Lib.hid S
  clear K S hy
  cases x2 with
  | false =>
    simp only [Bool.false_and]
    go_enter Try.func32, Try.ntmps32
    go_wp2_with fail
    refine (SS.out _).mono ?_
    rintro e w1 ⟨rfl, rfl⟩
    go_wp2
    go_ret
    exact ⟨rfl, (Below.refl _ _).alloc (Nat.le_refl _) _⟩
  | true =>
    simp only [Bool.true_and]
    cases y
    all_goals
      go_enter Try.func32, Try.ntmps32
      go_wp2_with fail
      refine (SS.out _).mono ?_
      rintro e w1 ⟨rfl, rfl⟩
      go_wp2_with fail
      refine (KEYH.out _).mono ?_
      rintro e w1 ⟨rfl, b1⟩
      go_wp2
      go_ret
      exact ⟨rfl, tokW_below (t := ⟨5, s, 0, a⟩) b1⟩
theorem nil_list {s : ByteArray} (h : ¬ 0 < s.size) : s.toList = [] := by rw [ByteArray.toList_eq]; exact nil_of_size h
end Go.Proofs.Ytkmgapieoedelaa
