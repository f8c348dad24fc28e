/- The contract of Right, all of it; and of Word. -/
import Derived.Test.YtgcojmjllpjefaaRightA
namespace Go.Proofs.Ytgcojmjllpjefaa
open Go.RowKit Go.Proofs.LexMath

theorem isEmpty_of {s : ByteArray} {b : Bool} (h : s.data.toList.isEmpty = b) : s.toList.isEmpty = b := by rw [ByteArray.toList_eq]; exact h
set_option maxRecDepth 100000 in
set_option maxHeartbeats 1000000 in
theorem right_3 (s : ByteArray) (n a : Int) (w : World) (ha : 0 ≤ a) (x : Bool) (hx : Hid (s.data.toList.isEmpty = x)) :
    Calls Try.prog 20 #[tokV ⟨3, s, n, a⟩] w (RB (x && decide (wr n = n)) w) := by
  unfold tokV
  have ha0 : decide (a < 0) = false := by simpa using ha
  have C := fun W => wrap_any n W
  have hw : (wr n == n) = decide (wr n = n) := by rw [Bool.eq_iff_iff]; simp
  generalize decide (wr n = n) = y at *
  generalize wr n = m at *
  have CC := Lib.hid C
  clear C
  cases x with
  | true =>
    have e : s.toList = [] := by rw [ByteArray.toList_eq]; exact List.isEmpty_iff.1 hx.out
    clear hx
    cases y
    all_goals
      go_enter Try.func20, Try.ntmps20
      go_upto_region 9 with (fail)
      go_quiet ((go_at_call 35; first | exact quiet_left (CC.out _) | exact quiet_same_left (CC.out _)))
    all_goals go_wp2
    all_goals go_ret
    all_goals exact ⟨rfl, below_drewN ((Below.refl _ _).alloc (Nat.le_refl _) _) _⟩
  | false =>
    have e : s.toList.isEmpty = false := isEmpty_of hx.out
    have e2 : ¬ s.toList = [] := by intro h; rw [h] at e; cases e
    clear hx
    go_enter Try.func20, Try.ntmps20
    go_upto_region 9 with (fail)
    go_quiet ((go_at_call 35; first | exact quiet_left (CC.out _) | exact quiet_same_left (CC.out _)))
    all_goals go_wp2
    all_goals go_ret
    all_goals exact ⟨rfl, below_drewN ((Below.refl _ _).alloc (Nat.le_refl _) _) _⟩
set_option maxRecDepth 100000 in
theorem right_4 (s : ByteArray) (a : Int) (w : World) (ha : 0 ≤ a) (hs : s.size ≤ 100000000) :
    Calls Try.prog 20 #[tokV ⟨4, s, 0, a⟩] w (RB (decide (s.size ≤ 200)) w) := by
  unfold tokV
  have ha0 : decide (a < 0) = false := by simpa using ha
  have hd : decide (s.size ≤ 200) = decide ((s.size : Int) ≤ 200) := by rw [Bool.eq_iff_iff]; simp only [decide_eq_true_eq]; omega
  rw [hd]
  clear hd
  go_enter Try.func20, Try.ntmps20
  go_wp2
  go_ret
  exact ⟨rfl, (Below.refl _ _).alloc (Nat.le_refl _) _⟩
set_option maxRecDepth 100000 in
theorem right_6 (s : ByteArray) (a : Int) (w : World) (ha : 0 ≤ a) :
    Calls Try.prog 20 #[tokV ⟨6, s, 0, a⟩] w (RB (key s.data.toList) w) := by
  unfold tokV
  have ha0 : decide (a < 0) = false := by simpa using ha
  have K := fun W => key_any s W
  generalize key s.data.toList = x at *
  have KK := Lib.hid K
  clear K
  go_enter Try.func20, Try.ntmps20
  go_wp2_with fail
  refine (KK.out _).mono ?_
  rintro e w1 ⟨rfl, rfl⟩
  go_wp2
  go_ret
  exact ⟨rfl, (Below.refl _ _).alloc (Nat.le_refl _) _⟩
set_option maxRecDepth 100000 in
theorem right_0 (k : Int) (s : ByteArray) (a : Int) (w : World) (ha : 0 ≤ a) (h1 : (k == 1) = false) (h2 : (k == 2) = false) (h3 : (k == 3) = false) (h4 : (k == 4) = false) (h5 : (k == 5) = false) (h6 : (k == 6) = false) :
    Calls Try.prog 20 #[tokV ⟨k, s, 0, a⟩] w (RB false w) := by
  unfold tokV
  have ha0 : decide (a < 0) = false := by simpa using ha
  have h3' : (k != 3) = true := by simpa using h3
  go_enter Try.func20, Try.ntmps20
  go_wp2
  go_ret
  exact ⟨rfl, (Below.refl _ _).alloc (Nat.le_refl _) _⟩
set_option maxRecDepth 100000 in
theorem right_bad (k : Int) (s : ByteArray) (n a : Int) (w : World) (h : a < 0 ∨ (0 ≤ a ∧ ¬ k = 3 ∧ ¬ n = 0)) :
    Calls Try.prog 20 #[tokV ⟨k, s, n, a⟩] w (RB false w) := by
  unfold tokV
  rcases h with h | ⟨h1, h2, h3⟩
  · have ha0 : decide (a < 0) = true := by simpa using h
    go_enter Try.func20, Try.ntmps20
    go_wp2
    go_ret
    exact ⟨rfl, (Below.refl _ _).alloc (Nat.le_refl _) _⟩
  · have ha0 : decide (a < 0) = false := by simpa using h1
    have h3' : (k != 3) = true := by simpa using h2
    have h4' : (n != 0) = true := by simpa using h3
    clear h2 h3
    go_enter Try.func20, Try.ntmps20
    go_wp2
    go_ret
    exact ⟨rfl, (Below.refl _ _).alloc (Nat.le_refl _) _⟩
theorem right_any (t : Tok) (w : World) (hs : t.text.size ≤ 100000000) : Calls Try.prog 20 #[tokV t] w (RB (rightB t) w) := by
  by_cases h0 : 0 ≤ t.at_
  · by_cases h1 : t.kind = 3 ∨ t.num = 0
    · rw [right_kind t h0 h1]
      obtain ⟨k, s, n, a⟩ := t
      simp only at h0 h1 hs ⊢
      by_cases g3 : k = 3
      · subst g3
        exact right_3 s n a w h0 _ (Lib.hid rfl)
      · obtain rfl : n = 0 := by omega
        by_cases g1 : k = 1
        · subst g1; exact right_1 s a w hs h0 _ _ (Lib.hid rfl) (Lib.hid rfl)
        · by_cases g2 : k = 2
          · subst g2; exact right_2 s a w hs h0 _ (Lib.hid rfl)
          · by_cases g4 : k = 4
            · subst g4; exact right_4 s a w h0 hs
            · by_cases g5 : k = 5
              · subst g5; exact right_5 s a w hs h0 _ _ (Lib.hid rfl) (Lib.hid rfl)
              · by_cases g6 : k = 6
                · subst g6; exact right_6 s a w h0
                · have e : kindB k s 0 = false := by simp [kindB, g1, g2, g3, g4, g5, g6]
                  rw [e]
                  exact right_0 k s a w h0 (by simpa using g1) (by simpa using g2) (by simpa using g3) (by simpa using g4) (by simpa using g5) (by simpa using g6)
    · rw [right_num t h1]
      exact right_bad t.kind t.text t.num t.at_ w (.inr ⟨h0, fun h => h1 (.inl h), fun h => h1 (.inr h)⟩)
  · rw [right_at t h0]
    exact right_bad t.kind t.text t.num t.at_ w (.inl (by omega))
end Go.Proofs.Ytgcojmjllpjefaa
