/- The contracts of Name and Con, of rightNum, textFault and fault. -/
import Derived.Test.YtlalnmefppbebaaSynB
import Derived.Test.YtlalnmefppbebaaLxN
namespace Go.Proofs.Ytlalnmefppbebaa
open Go.RowKit Go.Proofs.TreeMath
open Go.Proofs.Ytlalnmefppbebaa.Lx (quiet_left quiet_same_left below_drewN)
theorem right_n (s : ByteArray) (w : World) (hs : s.size ≤ 300) : Calls Try.prog 36 #[.agg #[.int .i64 1, .string s, .int .i64 0, .int .i64 0]] w (RB (LexMath.rightB ⟨1, s, 0, 0⟩) w) := Lx.right_any ⟨1, s, 0, 0⟩ w (by simp only; omega)
theorem right_o (s : ByteArray) (w : World) (hs : s.size ≤ 300) : Calls Try.prog 36 #[.agg #[.int .i64 5, .string s, .int .i64 0, .int .i64 0]] w (RB (LexMath.rightB ⟨5, s, 0, 0⟩) w) := Lx.right_any ⟨5, s, 0, 0⟩ w (by simp only; omega)
theorem right_c (s : ByteArray) (w : World) (hs : s.size ≤ 300) : Calls Try.prog 36 #[.agg #[.int .i64 2, .string s, .int .i64 0, .int .i64 0]] w (RB (LexMath.rightB ⟨2, s, 0, 0⟩) w) := Lx.right_any ⟨2, s, 0, 0⟩ w (by simp only; omega)
theorem rright_n (s : ByteArray) (w : World) (hs : s.size ≤ 300) : Calls Try.prog 37 #[.agg #[.int .i64 1, .string s, .int .i64 0, .int .i64 0]] w (RB (LexMath.rightB ⟨1, s, 0, 0⟩) w) := Lx.rright_any ⟨1, s, 0, 0⟩ w (by simp only; omega)
theorem rright_o (s : ByteArray) (w : World) (hs : s.size ≤ 300) : Calls Try.prog 37 #[.agg #[.int .i64 5, .string s, .int .i64 0, .int .i64 0]] w (RB (LexMath.rightB ⟨5, s, 0, 0⟩) w) := Lx.rright_any ⟨5, s, 0, 0⟩ w (by simp only; omega)
theorem rright_c (s : ByteArray) (w : World) (hs : s.size ≤ 300) : Calls Try.prog 37 #[.agg #[.int .i64 2, .string s, .int .i64 0, .int .i64 0]] w (RB (LexMath.rightB ⟨2, s, 0, 0⟩) w) := Lx.rright_any ⟨2, s, 0, 0⟩ w (by simp only; omega)
theorem name_any (s : ByteArray) (w : World) (hs : s.size ≤ 300) : Calls Try.prog 15 #[.string s] w (RB (nameB s) w) := by
  have A := Lib.hid (fun w => right_n s w hs)
  have B := Lib.hid (fun w => right_o s w hs)
  unfold nameB
  generalize LexMath.rightB ⟨1, s, 0, 0⟩ = x at *
  generalize LexMath.rightB ⟨5, s, 0, 0⟩ = y at *
  clear hs
  cases x
  · go_enter Try.func15, Try.ntmps15
    go_wp2_with fail
    refine (A.out _).mono ?_
    rintro e w1 ⟨rfl, b1⟩
    have B1 := Lib.hid b1
    clear b1
    go_wp2_with fail
    refine (B.out _).mono ?_
    rintro e w2 ⟨rfl, b2⟩
    have B2 := Lib.hid b2
    clear b2
    go_wp2_with fail
    go_ret
    exact ⟨rfl, B1.out.trans (B2.out.mono B1.out.size)⟩
  · go_enter Try.func15, Try.ntmps15
    go_wp2_with fail
    refine (A.out _).mono ?_
    rintro e w1 ⟨rfl, b1⟩
    have B1 := Lib.hid b1
    clear b1
    go_wp2_with fail
    go_ret
    exact ⟨rfl, B1.out⟩
theorem con_any (s : ByteArray) (w : World) (hs : s.size ≤ 300) : Calls Try.prog 17 #[.string s] w (RB (conB s) w) := by
  have A := Lib.hid (fun w => right_c s w hs)
  unfold conB
  generalize LexMath.rightB ⟨2, s, 0, 0⟩ = x at *
  clear hs
  go_enter Try.func17, Try.ntmps17
  go_wp2_with fail
  refine (A.out _).mono ?_
  rintro e w1 ⟨rfl, b1⟩
  have B1 := Lib.hid b1
  clear b1
  go_wp2_with fail
  go_ret
  exact ⟨rfl, B1.out⟩
theorem rname_any (s : ByteArray) (w : World) (hs : s.size ≤ 300) : Calls Try.prog 16 #[.string s] w (RB (nameB s) w) := by
  have A := Lib.hid (fun w => rright_n s w hs)
  have B := Lib.hid (fun w => rright_o s w hs)
  unfold nameB
  generalize LexMath.rightB ⟨1, s, 0, 0⟩ = x at *
  generalize LexMath.rightB ⟨5, s, 0, 0⟩ = y at *
  clear hs
  cases x
  · go_enter Try.func16, Try.ntmps16
    go_wp2_with fail
    refine (A.out _).mono ?_
    rintro e w1 ⟨rfl, b1⟩
    have B1 := Lib.hid b1
    clear b1
    go_wp2_with fail
    refine (B.out _).mono ?_
    rintro e w2 ⟨rfl, b2⟩
    have B2 := Lib.hid b2
    clear b2
    go_wp2_with fail
    go_ret
    exact ⟨rfl, B1.out.trans (B2.out.mono B1.out.size)⟩
  · go_enter Try.func16, Try.ntmps16
    go_wp2_with fail
    refine (A.out _).mono ?_
    rintro e w1 ⟨rfl, b1⟩
    have B1 := Lib.hid b1
    clear b1
    go_wp2_with fail
    go_ret
    exact ⟨rfl, B1.out⟩
theorem rcon_any (s : ByteArray) (w : World) (hs : s.size ≤ 300) : Calls Try.prog 18 #[.string s] w (RB (conB s) w) := by
  have A := Lib.hid (fun w => rright_c s w hs)
  unfold conB
  generalize LexMath.rightB ⟨2, s, 0, 0⟩ = x at *
  clear hs
  go_enter Try.func18, Try.ntmps18
  go_wp2_with fail
  refine (A.out _).mono ?_
  rintro e w1 ⟨rfl, b1⟩
  have B1 := Lib.hid b1
  clear b1
  go_wp2_with fail
  go_ret
  exact ⟨rfl, B1.out⟩
theorem num_eq (a b : Int) : (a == b) = decide (a = b) := by rw [Bool.eq_iff_iff]; simp
theorem rightNum_any (n : Nd) (w : World) : Calls Try.prog 73 #[n.val] w (RB (numB n.kind n.num) w) := by
  obtain ⟨k, s, m, d⟩ := n
  unfold Nd.val
  simp only
  have C := Lib.hid (fun W => Lx.wrap_any m W)
  by_cases h1 : k = 1
  · subst h1
    rw [show numB 1 m = (Lx.wr m == m) by simp [numB, num_eq]]
    generalize Lx.wr m = x at *
    go_enter Try.func73, Try.ntmps73
    go_wp2
    go_quiet ((go_at_call 60; first | exact quiet_left (C.out _) | exact quiet_same_left (C.out _)))
    all_goals go_wp2
    all_goals go_ret
    all_goals exact ⟨rfl, below_drewN ((Below.refl _ _).alloc (Nat.le_refl _) _) _⟩
  by_cases h2 : k = 23
  · subst h2
    rw [show numB 23 m = (Lx.wr m == m) by simp [numB, num_eq]]
    generalize Lx.wr m = x at *
    clear h1
    go_enter Try.func73, Try.ntmps73
    go_wp2
    go_quiet ((go_at_call 60; first | exact quiet_left (C.out _) | exact quiet_same_left (C.out _)))
    all_goals go_wp2
    all_goals go_ret
    all_goals exact ⟨rfl, below_drewN ((Below.refl _ _).alloc (Nat.le_refl _) _) _⟩
  rw [show numB k m = (m == 0) by simp [numB, num_eq, h1, h2]]
  have g1 : (k == 1) = false := by simpa using h1
  have g2 : (k == 23) = false := by simpa using h2
  clear h1 h2 C
  go_enter Try.func73, Try.ntmps73
  go_wp2
  go_ret
  exact ⟨rfl, (Below.refl _ _).alloc (Nat.le_refl _) _⟩
set_option maxHeartbeats 2000000 in
theorem textFault_any (n : Nd) (w : World) (hs : n.text.size ≤ 300) : Calls Try.prog 75 #[n.val] w (RI (textE n.kind n.text) w) := by
  obtain ⟨k, s, m, d⟩ := n
  unfold Nd.val
  simp only at hs ⊢
  have A := Lib.hid (fun w => name_any s w hs)
  have B := Lib.hid (fun w => con_any s w hs)
  by_cases h1 : sortN k = 1
  · have e : textE k s = if nameB s then 0 else 62 := by simp [textE, h1]
    rw [e]
    have hk : k = 3 ∨ k = 5 ∨ k = 7 ∨ k = 8 ∨ k = 12 ∨ k = 22 := by
      unfold sortN at h1
      by_cases h : k = 3 ∨ k = 5 ∨ k = 7 ∨ k = 8 ∨ k = 12 ∨ k = 22
      · exact h
      · rw [if_neg h] at h1
        repeat' split at h1
        all_goals omega
    clear e h1
    generalize nameB s = x at *
    rcases hk with rfl | rfl | rfl | rfl | rfl | rfl <;> cases x
    all_goals
      go_enter Try.func75, Try.ntmps75
      go_wp2_with fail
      refine (A.out _).mono ?_
      rintro e w1 ⟨rfl, b1⟩
      have B1 := Lib.hid b1
      clear b1
      go_wp2_with fail
      go_ret
      exact ⟨rfl, ((Below.refl _ _).alloc (Nat.le_refl _) _).trans (B1.out.mono (by simp))⟩
  by_cases h2 : sortN k = 2
  · have e : textE k s = if conB s then 0 else 62 := by simp [textE, h2]
    rw [e]
    have hk : k = 4 ∨ k = 24 := by
      unfold sortN at h2
      repeat' split at h2
      all_goals omega
    clear e h1 h2
    generalize conB s = x at *
    rcases hk with rfl | rfl <;> cases x
    all_goals
      go_enter Try.func75, Try.ntmps75
      go_wp2_with fail
      refine (B.out _).mono ?_
      rintro e w1 ⟨rfl, b1⟩
      have B1 := Lib.hid b1
      clear b1
      go_wp2_with fail
      go_ret
      exact ⟨rfl, ((Below.refl _ _).alloc (Nat.le_refl _) _).trans (B1.out.mono (by simp))⟩
  by_cases h3 : sortN k = 3
  · have e : textE k s = if s.size ≤ 200 then 0 else 61 := by simp [textE, h3]
    rw [e]
    have hk : k = 2 := by
      unfold sortN at h3
      repeat' split at h3
      all_goals omega
    clear e h1 h2 h3 A B
    subst hk
    by_cases h : s.size ≤ 200
    · rw [if_pos h]
      have h' : decide ((s.size : Int) ≤ 200) = true := by simp; omega
      clear h hs
      go_enter Try.func75, Try.ntmps75
      go_wp2
      go_ret
      exact ⟨rfl, (Below.refl _ _).alloc (Nat.le_refl _) _⟩
    · rw [if_neg h]
      have h' : decide ((s.size : Int) ≤ 200) = false := by simp; omega
      clear h hs
      go_enter Try.func75, Try.ntmps75
      go_wp2
      go_ret
      exact ⟨rfl, (Below.refl _ _).alloc (Nat.le_refl _) _⟩
  have e : textE k s = if s = ByteArray.empty then 0 else 61 := by simp [textE, h1, h2, h3]
  rw [e]
  have hk : ¬ k = 3 ∧ ¬ k = 5 ∧ ¬ k = 7 ∧ ¬ k = 8 ∧ ¬ k = 12 ∧ ¬ k = 22 ∧ ¬ k = 4 ∧ ¬ k = 24 ∧ ¬ k = 2 := by
    unfold sortN at h1 h2 h3
    repeat' split at h1
    all_goals simp_all
  obtain ⟨a1, a2, a3, a4, a5, a6, a7, a8, a9⟩ := hk
  have g1 : (k == 3) = false := by simpa using a1
  have g2 : (k == 5) = false := by simpa using a2
  have g3 : (k == 7) = false := by simpa using a3
  have g4 : (k == 8) = false := by simpa using a4
  have g5 : (k == 12) = false := by simpa using a5
  have g6 : (k == 22) = false := by simpa using a6
  have g7 : (k == 4) = false := by simpa using a7
  have g8 : (k == 24) = false := by simpa using a8
  have g9 : (k == 2) = false := by simpa using a9
  clear e h1 h2 h3 A B a1 a2 a3 a4 a5 a6 a7 a8 a9
  by_cases h : s = ByteArray.empty
  · rw [if_pos h]
    subst h
    clear hs
    go_enter Try.func75, Try.ntmps75
    go_wp2
    go_ret
    exact ⟨rfl, (Below.refl _ _).alloc (Nat.le_refl _) _⟩
  · rw [if_neg h]
    have e2 : ¬ s.toList = [] := by
      intro h'
      rw [ByteArray.toList_eq] at h'
      obtain ⟨data⟩ := s
      have hd : data = #[] := by simpa using h'
      subst hd
      exact h rfl
    have e : s.toList.isEmpty = false := by
      cases hc : s.toList with
      | nil => exact absurd hc e2
      | cons _ _ => rfl
    clear h hs
    go_enter Try.func75, Try.ntmps75
    go_wp2
    go_ret
    exact ⟨rfl, (Below.refl _ _).alloc (Nat.le_refl _) _⟩
end Go.Proofs.Ytlalnmefppbebaa
