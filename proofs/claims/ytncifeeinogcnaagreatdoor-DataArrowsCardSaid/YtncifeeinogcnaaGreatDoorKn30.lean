/- Texts of this seat, one behind the other: LxRefRight. -/
import Derived.Test.YtncifeeinogcnaaGreatDoorKn29
import Derived.Deep.QuietTactic
import Derived.BigQuiet
import Derived.Deep.RegionHeld3
/- The contract of the document's own Right: whether a token may be. -/
set_option maxRecDepth 100000
namespace Go.Proofs.YtncifeeinogcnaaGreatDoor.Lx
open Go.RowKit Go.Proofs.LexMath

theorem while_0 (s : ByteArray) (lo hi : Int) (w : World) (hs : s.size ≤ 100000000) :
    Calls Tryz.prog 90 #[.string s, .int .i64 0, .int .i64 lo, .int .i64 hi] w fun e w' => e = .returned (.int .i64 ((run (kp lo hi) s.data.toList : Nat) : Int)) ∧ w = w' := by
  have h := while_any s 0 lo hi w (Nat.zero_le _) hs
  rw [Nat.zero_add, List.drop_zero] at h
  exact h
theorem isw_run (p q : Int → Bool) (s : ByteArray) (h : 0 < s.size) (hpq : ∀ r, p r = true → q r = true) : isw p q s.data.toList = (p (s[0].toNat : Int) && (((run q s.data.toList : Nat) : Int) == (s.size : Int))) := by
  rw [isw_at p q s h]
  cases hp : p (s[0].toNat : Nat) with
  | false => rfl
  | true =>
    have e := (run_at q s 0 h).1 (hpq _ hp)
    rw [List.drop_zero, Nat.zero_add, Nat.zero_add] at e
    rw [e, Bool.true_and, Bool.true_and, Bool.eq_iff_iff, decide_eq_true_eq, beq_iff_eq]
theorem kind_1 (c : Int) : (kindN c == 1) = low c := by
  rw [Bool.eq_iff_iff, beq_iff_eq]
  constructor
  · intro h
    unfold kindN at h
    split at h
    · omega
    · split at h
      · assumption
      · split at h
        · omega
        · split at h
          · omega
          · split at h <;> omega
  · exact kind_low
theorem kind_2 (c : Int) : (kindN c == 2) = upp c := by
  rw [Bool.eq_iff_iff, beq_iff_eq]
  constructor
  · intro h
    unfold kindN at h
    split at h
    · omega
    · split at h
      · omega
      · split at h
        · assumption
        · split at h
          · omega
          · split at h <;> omega
  · exact kind_upp
theorem upp_tl {r : Int} (h : upp r = true) : tl r = true := by simp [tl, ltr, h]
theorem key_upp (l : Bs) (h : isw upp tl l = true) : key l = false := by
  obtain ⟨c, r, rfl, hc, _⟩ := isw_cons h
  rw [Bool.eq_false_iff]
  intro hk
  obtain ⟨c', r', e, hh⟩ := key_heads _ hk
  have hu : (65 : Int) ≤ iv c ∧ iv c ≤ 90 := by simpa [upp] using hc
  injection e with e1 e2
  subst e1 e2
  have k40 : iv 40 = 40 := rfl
  have k41 : iv 41 = 41 := rfl
  have k95 : iv 95 = 95 := rfl
  have k59 : iv 59 = 59 := rfl
  rcases hh with ⟨h1, _⟩ | ⟨h1, _⟩ | h1
  · simp [low] at h1; omega
  · simp [opr] at h1; omega
  · rcases h1 with h1 | h1 | h1 | h1 <;> (injection h1 with h1 _; rw [h1] at hu; omega)
theorem isw_1 (s : ByteArray) (h : 0 < s.size) : (isw low tl s.data.toList && !key s.data.toList) = ((kindN (s[0].toNat : Int) == 1) && (((run tl s.data.toList : Nat) : Int) == (s.size : Int)) && !key s.data.toList) := by
  rw [isw_run low tl s h (fun _ => low_tl), kind_1]
theorem isw_2 (s : ByteArray) (h : 0 < s.size) : isw upp tl s.data.toList = ((kindN (s[0].toNat : Int) == 2) && (((run tl s.data.toList : Nat) : Int) == (s.size : Int)) && !key s.data.toList) := by
  have e := key_upp s.data.toList
  rw [isw_run upp tl s h (fun _ => upp_tl), kind_2] at *
  cases hx : (upp (s[0].toNat : Int) && (((run tl s.data.toList : Nat) : Int) == (s.size : Int))) with
  | false => rfl
  | true => rw [e hx]; rfl
theorem isw_5 (s : ByteArray) (h : 0 < s.size) : isw opr opr s.data.toList = (((run opr s.data.toList : Nat) : Int) == (s.size : Int)) := by
  rw [isw_run opr opr s h (fun _ h => h)]
  cases hp : opr (s[0].toNat : Int) with
  | true => rfl
  | false =>
    rw [Bool.false_and, eq_comm, Bool.eq_false_iff]
    intro e
    rw [beq_iff_eq] at e
    have := (run_at opr s 0 h).2 hp
    rw [List.drop_zero] at this
    omega
theorem empty_of {s : ByteArray} (h : 0 < s.size) : s.toList.isEmpty = false := by
  rw [ByteArray.toList_eq]
  cases hx : s.data.toList with
  | nil => have : s.data.toList.length = s.size := rfl; rw [hx] at this; simp at this; omega
  | cons => rfl
theorem emp_of {s : ByteArray} (h : 0 < s.size) : (!s.toList.isEmpty) = true ∧ ¬ s.toList = [] := by
  have em := empty_of h
  exact ⟨by rw [em]; rfl, fun h => by rw [h] at em; cases em⟩
theorem below_drew (w : World) : Below w.heap.size w w.drew := (Below.refl _ _).drew
theorem below_next {W w w' : World} (h : Below W.heap.size W w) (h' : Below w.heap.size w w') : Below W.heap.size W w' := h.trans (h'.mono h.size)
theorem rr_s (t : Tok) (w w' : World) (b : Below (tokW t w).heap.size (tokW t w) w') : Below (tokW t w).heap.size (tokW t w) w' ∧ w'.cell? ⟨w.heap.size, 2, none⟩ = some (.int .i64 t.num) ∧ w'.cell? ⟨w.heap.size, 0, none⟩ = some (.int .i64 t.kind) :=
  have ⟨q1, _, q3, _⟩ := tokW_facts b
  ⟨b, q3, q1⟩
set_option maxRecDepth 100000 in
set_option maxHeartbeats 4000000 in
theorem rright_1 (s : ByteArray) (a : Int) (w : World) (hs : s.size ≤ 100000000) (ha : 0 ≤ a) (h0 : 0 < s.size) (x1 x2 y : Bool) (h1 : Hid ((kindN (s[0].toNat : Int) == 1) = x1)) (h2 : Hid ((((run tl s.data.toList : Nat) : Int) == (s.size : Int)) = x2)) (hy : Hid (key s.data.toList = y)) :
    Calls Tryz.prog 46 #[tokV ⟨1, s, 0, a⟩] w (RB (x1 && x2 && !y) w) := by
  have T := Lib.hid (rr_s ⟨1, s, 0, a⟩ w)
  unfold tokV
  have ha0 : decide (a < 0) = false := by simpa using ha
  obtain ⟨em2, em3⟩ := emp_of h0
  have K := fun W => rkey_any s W
  rw [hy.out] at K
  have KEYH := Lib.hid K
  have I := fun W => is_any (s[0].toNat : Int) W
  have S := fun W => while_0 s 1 4 W hs
  rw [kp_tl] at S
  have h1 := h1.out
  have h2 := h2.out
  generalize kindN (s[0].toNat : Int) = z at *
  generalize run tl s.data.toList = m at *
  have II := Lib.hid I
  have SS := Lib.hid S
  clear K I S hy
  cases x1 with
  | false =>
    simp only [Bool.false_and]
    go_enter Tryz.func46, Tryz.ntmps46
    go_upto_region 7 with (fail)
    go_quiet ((first | (go_at_call 89; first | exact quiet_left (II.out _) | exact quiet_same_left (II.out _)) | (go_at_call 90; first | exact quiet_left (SS.out _) | exact quiet_same_left (SS.out _))))
    all_goals go_wp2
    all_goals go_ret
    all_goals exact ⟨rfl, below_drewN ((Below.refl _ _).alloc (Nat.le_refl _) _) _⟩
  | true =>
    cases x2 with
    | false =>
      simp only [Bool.true_and, Bool.false_and]
      go_enter Tryz.func46, Tryz.ntmps46
      go_upto_region 7 with (fail)
      go_quiet ((first | (go_at_call 89; first | exact quiet_left (II.out _) | exact quiet_same_left (II.out _)) | (go_at_call 90; first | exact quiet_left (SS.out _) | exact quiet_same_left (SS.out _))))
      all_goals go_wp2
      all_goals go_ret
      all_goals exact ⟨rfl, below_drewN ((Below.refl _ _).alloc (Nat.le_refl _) _) _⟩
    | true =>
      simp only [Bool.true_and]
      cases y
      all_goals
        go_enter Tryz.func46, Tryz.ntmps46
        go_upto_region 7 with (fail)
        (first | go_region_held3 (fun w' => Below (tokW ⟨1, s, 0, a⟩ w).heap.size (tokW ⟨1, s, 0, a⟩ w) w' ∧ w'.cell? ⟨w.heap.size, 2, none⟩ = some (.int .i64 0) ∧ w'.cell? ⟨w.heap.size, 0, none⟩ = some (.int .i64 1)) (first | exact T.out _ (below_drew _) | exact T.out _ (by assumption)) ((first
          | (go_at_call 89; (with_reducible refine (II.out _).mono ?_); rintro e wz ⟨rfl, rfl⟩)
          | (go_at_call 90; (with_reducible refine (SS.out _).mono ?_); rintro e wz ⟨rfl, rfl⟩)
          | (go_at_call 91; (with_reducible refine (KEYH.out _).mono ?_); rintro e wz ⟨rfl, bz⟩; have bz' := below_next (W := tokW ⟨1, s, 0, a⟩ w) (below_drew _) bz)
          | fail)) | fail)
      all_goals go_wp2
      all_goals go_ret
      all_goals exact ⟨rfl, tokW_below (t := ⟨1, s, 0, a⟩) (by assumption)⟩
set_option maxRecDepth 100000 in
set_option maxHeartbeats 4000000 in
theorem rright_2 (s : ByteArray) (a : Int) (w : World) (hs : s.size ≤ 100000000) (ha : 0 ≤ a) (h0 : 0 < s.size) (x1 x2 y : Bool) (h1 : Hid ((kindN (s[0].toNat : Int) == 2) = x1)) (h2 : Hid ((((run tl s.data.toList : Nat) : Int) == (s.size : Int)) = x2)) (hy : Hid (key s.data.toList = y)) :
    Calls Tryz.prog 46 #[tokV ⟨2, s, 0, a⟩] w (RB (x1 && x2 && !y) w) := by
  have T := Lib.hid (rr_s ⟨2, s, 0, a⟩ w)
  unfold tokV
  have ha0 : decide (a < 0) = false := by simpa using ha
  obtain ⟨em2, em3⟩ := emp_of h0
  have K := fun W => rkey_any s W
  rw [hy.out] at K
  have KEYH := Lib.hid K
  have I := fun W => is_any (s[0].toNat : Int) W
  have S := fun W => while_0 s 1 4 W hs
  rw [kp_tl] at S
  have h1 := h1.out
  have h2 := h2.out
  generalize kindN (s[0].toNat : Int) = z at *
  generalize run tl s.data.toList = m at *
  have II := Lib.hid I
  have SS := Lib.hid S
  clear K I S hy
  cases x1 with
  | false =>
    simp only [Bool.false_and]
    go_enter Tryz.func46, Tryz.ntmps46
    go_upto_region 7 with (fail)
    go_quiet ((first | (go_at_call 89; first | exact quiet_left (II.out _) | exact quiet_same_left (II.out _)) | (go_at_call 90; first | exact quiet_left (SS.out _) | exact quiet_same_left (SS.out _))))
    all_goals go_wp2
    all_goals go_ret
    all_goals exact ⟨rfl, below_drewN ((Below.refl _ _).alloc (Nat.le_refl _) _) _⟩
  | true =>
    cases x2 with
    | false =>
      simp only [Bool.true_and, Bool.false_and]
      go_enter Tryz.func46, Tryz.ntmps46
      go_upto_region 7 with (fail)
      go_quiet ((first | (go_at_call 89; first | exact quiet_left (II.out _) | exact quiet_same_left (II.out _)) | (go_at_call 90; first | exact quiet_left (SS.out _) | exact quiet_same_left (SS.out _))))
      all_goals go_wp2
      all_goals go_ret
      all_goals exact ⟨rfl, below_drewN ((Below.refl _ _).alloc (Nat.le_refl _) _) _⟩
    | true =>
      simp only [Bool.true_and]
      cases y
      all_goals
        go_enter Tryz.func46, Tryz.ntmps46
        go_upto_region 7 with (fail)
        (first | go_region_held3 (fun w' => Below (tokW ⟨2, s, 0, a⟩ w).heap.size (tokW ⟨2, s, 0, a⟩ w) w' ∧ w'.cell? ⟨w.heap.size, 2, none⟩ = some (.int .i64 0) ∧ w'.cell? ⟨w.heap.size, 0, none⟩ = some (.int .i64 2)) (first | exact T.out _ (below_drew _) | exact T.out _ (by assumption)) ((first
          | (go_at_call 89; (with_reducible refine (II.out _).mono ?_); rintro e wz ⟨rfl, rfl⟩)
          | (go_at_call 90; (with_reducible refine (SS.out _).mono ?_); rintro e wz ⟨rfl, rfl⟩)
          | (go_at_call 91; (with_reducible refine (KEYH.out _).mono ?_); rintro e wz ⟨rfl, bz⟩; have bz' := below_next (W := tokW ⟨2, s, 0, a⟩ w) (below_drew _) bz)
          | fail)) | fail)
      all_goals go_wp2
      all_goals go_ret
      all_goals exact ⟨rfl, tokW_below (t := ⟨2, s, 0, a⟩) (by assumption)⟩
set_option maxRecDepth 100000 in
set_option maxHeartbeats 4000000 in
theorem rzero_1 (s : ByteArray) (n a : Int) (w : World) (ha : 0 ≤ a) (h : ¬ n = 0 ∨ (n = 0 ∧ s.toList = [])) :
    Calls Tryz.prog 46 #[tokV ⟨1, s, n, a⟩] w (RB false w) := by
  unfold tokV
  have ha0 : decide (a < 0) = false := by simpa using ha
  rcases h with h | ⟨rfl, e⟩
  · have h0 : (n == 0) = false := by simpa using h
    clear h
    go_enter Tryz.func46, Tryz.ntmps46
    go_upto_region 7 with (fail)
    go_quiet (fail)
    all_goals go_wp2
    all_goals go_ret
    all_goals exact ⟨rfl, below_drewN ((Below.refl _ _).alloc (Nat.le_refl _) _) _⟩
  · go_enter Tryz.func46, Tryz.ntmps46
    go_upto_region 7 with (fail)
    go_quiet (fail)
    all_goals go_wp2
    all_goals go_ret
    all_goals exact ⟨rfl, below_drewN ((Below.refl _ _).alloc (Nat.le_refl _) _) _⟩
set_option maxRecDepth 100000 in
set_option maxHeartbeats 4000000 in
theorem rzero_2 (s : ByteArray) (n a : Int) (w : World) (ha : 0 ≤ a) (h : ¬ n = 0 ∨ (n = 0 ∧ s.toList = [])) :
    Calls Tryz.prog 46 #[tokV ⟨2, s, n, a⟩] w (RB false w) := by
  unfold tokV
  have ha0 : decide (a < 0) = false := by simpa using ha
  rcases h with h | ⟨rfl, e⟩
  · have h0 : (n == 0) = false := by simpa using h
    clear h
    go_enter Tryz.func46, Tryz.ntmps46
    go_upto_region 7 with (fail)
    go_quiet (fail)
    all_goals go_wp2
    all_goals go_ret
    all_goals exact ⟨rfl, below_drewN ((Below.refl _ _).alloc (Nat.le_refl _) _) _⟩
  · go_enter Tryz.func46, Tryz.ntmps46
    go_upto_region 7 with (fail)
    go_quiet (fail)
    all_goals go_wp2
    all_goals go_ret
    all_goals exact ⟨rfl, below_drewN ((Below.refl _ _).alloc (Nat.le_refl _) _) _⟩
set_option maxRecDepth 100000 in
set_option maxHeartbeats 4000000 in
theorem rright_3 (s : ByteArray) (n a : Int) (w : World) (ha : 0 ≤ a) (x : Bool) (hx : Hid (s.data.toList.isEmpty = x)) :
    Calls Tryz.prog 46 #[tokV ⟨3, s, n, a⟩] w (RB (x && decide (wr n = n)) w) := by
  unfold tokV
  have ha0 : decide (a < 0) = false := by simpa using ha
  have C := fun W => rwrap_any n W
  have hw : (wr n == n) = decide (wr n = n) := by rw [Bool.eq_iff_iff]; simp
  generalize decide (wr n = n) = y at *
  generalize wr n = m at *
  have CC := Lib.hid C
  clear C
  cases x with
  | true =>
    have e : s.toList = [] := by rw [ByteArray.toList_eq]; exact List.isEmpty_iff.1 hx.out
    clear hx
    cases y
    all_goals
      go_enter Tryz.func46, Tryz.ntmps46
      go_upto_region 9 with (fail)
      go_quiet ((go_at_call 92; first | exact quiet_left (CC.out _) | exact quiet_same_left (CC.out _)))
    all_goals go_wp2
    all_goals go_ret
    all_goals exact ⟨rfl, below_drewN ((Below.refl _ _).alloc (Nat.le_refl _) _) _⟩
  | false =>
    have e : s.toList.isEmpty = false := isEmpty_of hx.out
    have e2 : ¬ s.toList = [] := by intro h; rw [h] at e; cases e
    clear hx
    go_enter Tryz.func46, Tryz.ntmps46
    go_upto_region 9 with (fail)
    go_quiet ((go_at_call 92; first | exact quiet_left (CC.out _) | exact quiet_same_left (CC.out _)))
    all_goals go_wp2
    all_goals go_ret
    all_goals exact ⟨rfl, below_drewN ((Below.refl _ _).alloc (Nat.le_refl _) _) _⟩
set_option maxRecDepth 100000 in
theorem rright_4 (s : ByteArray) (a : Int) (w : World) (ha : 0 ≤ a) (hs : s.size ≤ 100000000) :
    Calls Tryz.prog 46 #[tokV ⟨4, s, 0, a⟩] w (RB (decide (s.size ≤ 200)) w) := by
  unfold tokV
  have ha0 : decide (a < 0) = false := by simpa using ha
  have hd : decide (s.size ≤ 200) = decide ((s.size : Int) ≤ 200) := by rw [Bool.eq_iff_iff]; simp only [decide_eq_true_eq]; omega
  rw [hd]
  clear hd
  go_enter Tryz.func46, Tryz.ntmps46
  go_wp2
  go_ret
  exact ⟨rfl, (Below.refl _ _).alloc (Nat.le_refl _) _⟩
set_option maxRecDepth 100000 in
theorem rright_6 (s : ByteArray) (a : Int) (w : World) (ha : 0 ≤ a) :
    Calls Tryz.prog 46 #[tokV ⟨6, s, 0, a⟩] w (RB (key s.data.toList) w) := by
  unfold tokV
  have ha0 : decide (a < 0) = false := by simpa using ha
  have K := fun W => rkey_any s W
  generalize key s.data.toList = x at *
  have KK := Lib.hid K
  clear K
  go_enter Tryz.func46, Tryz.ntmps46
  go_wp2_with fail
  refine (KK.out _).mono ?_
  rintro e w1 ⟨rfl, b1⟩
  go_wp2
  go_ret
  exact ⟨rfl, tokW_below (t := ⟨6, s, 0, a⟩) b1⟩
set_option maxRecDepth 100000 in
theorem rright_0 (k : Int) (s : ByteArray) (n a : Int) (w : World) (ha : 0 ≤ a) (h1 : (k == 1) = false) (h2 : (k == 2) = false) (h3 : (k == 3) = false) (h4 : (k == 4) = false) (h5 : (k == 5) = false) (h6 : (k == 6) = false) :
    Calls Tryz.prog 46 #[tokV ⟨k, s, n, a⟩] w (RB false w) := by
  unfold tokV
  have ha0 : decide (a < 0) = false := by simpa using ha
  go_enter Tryz.func46, Tryz.ntmps46
  go_wp2
  go_ret
  exact ⟨rfl, (Below.refl _ _).alloc (Nat.le_refl _) _⟩
set_option maxRecDepth 100000 in
theorem rright_at (k : Int) (s : ByteArray) (n a : Int) (w : World) (ha : a < 0) :
    Calls Tryz.prog 46 #[tokV ⟨k, s, n, a⟩] w (RB false w) := by
  unfold tokV
  have ha0 : decide (a < 0) = true := by simpa using ha
  go_enter Tryz.func46, Tryz.ntmps46
  go_wp2
  go_ret
  exact ⟨rfl, (Below.refl _ _).alloc (Nat.le_refl _) _⟩
set_option maxRecDepth 100000 in
theorem rnum_4 (s : ByteArray) (n a : Int) (w : World) (ha : 0 ≤ a) (hn : ¬ n = 0) :
    Calls Tryz.prog 46 #[tokV ⟨4, s, n, a⟩] w (RB false w) := by
  unfold tokV
  have ha0 : decide (a < 0) = false := by simpa using ha
  have h0 : (n == 0) = false := by simpa using hn
  clear hn
  go_enter Tryz.func46, Tryz.ntmps46
  go_wp2
  go_ret
  exact ⟨rfl, (Below.refl _ _).alloc (Nat.le_refl _) _⟩
set_option maxRecDepth 100000 in
theorem rnum_5 (s : ByteArray) (n a : Int) (w : World) (ha : 0 ≤ a) (hn : ¬ n = 0) :
    Calls Tryz.prog 46 #[tokV ⟨5, s, n, a⟩] w (RB false w) := by
  unfold tokV
  have ha0 : decide (a < 0) = false := by simpa using ha
  have h0 : (n == 0) = false := by simpa using hn
  clear hn
  go_enter Tryz.func46, Tryz.ntmps46
  go_wp2
  go_ret
  exact ⟨rfl, (Below.refl _ _).alloc (Nat.le_refl _) _⟩
set_option maxRecDepth 100000 in
theorem rnum_6 (s : ByteArray) (n a : Int) (w : World) (ha : 0 ≤ a) (hn : ¬ n = 0) :
    Calls Tryz.prog 46 #[tokV ⟨6, s, n, a⟩] w (RB false w) := by
  unfold tokV
  have ha0 : decide (a < 0) = false := by simpa using ha
  have h0 : (n == 0) = false := by simpa using hn
  clear hn
  go_enter Tryz.func46, Tryz.ntmps46
  go_wp2
  go_ret
  exact ⟨rfl, (Below.refl _ _).alloc (Nat.le_refl _) _⟩
set_option maxRecDepth 100000 in
set_option maxHeartbeats 1000000 in
theorem rzero_5 (s : ByteArray) (a : Int) (w : World) (ha : 0 ≤ a) (e : s.toList = []) :
    Calls Tryz.prog 46 #[tokV ⟨5, s, 0, a⟩] w (RB false w) := by
  unfold tokV
  have ha0 : decide (a < 0) = false := by simpa using ha
  go_enter Tryz.func46, Tryz.ntmps46
  go_wp2
  go_ret
  exact ⟨rfl, (Below.refl _ _).alloc (Nat.le_refl _) _⟩
set_option maxRecDepth 100000 in
set_option maxHeartbeats 1000000 in
theorem rright_5 (s : ByteArray) (a : Int) (w : World) (hs : s.size ≤ 100000000) (ha : 0 ≤ a) (h0 : 0 < s.size) (x2 y : Bool) (h2 : Hid ((((run opr s.data.toList : Nat) : Int) == (s.size : Int)) = x2)) (hy : Hid (key s.data.toList = y)) :
    Calls Tryz.prog 46 #[tokV ⟨5, s, 0, a⟩] w (RB (x2 && !y) w) := by
  unfold tokV
  have ha0 : decide (a < 0) = false := by simpa using ha
  obtain ⟨em2, em3⟩ := emp_of h0
  have K := fun W => rkey_any s W
  rw [hy.out] at K
  have KEYH := Lib.hid K
  have S := fun W => while_0 s 5 5 W hs
  rw [kp_opr] at S
  have h2 := h2.out
  generalize run opr s.data.toList = m at *
  have SS := Lib.hid S
  clear K S hy
  cases x2 with
  | false =>
    simp only [Bool.false_and]
    go_enter Tryz.func46, Tryz.ntmps46
    go_wp2_with fail
    refine (SS.out _).mono ?_
    rintro e w1 ⟨rfl, rfl⟩
    go_wp2
    go_ret
    exact ⟨rfl, (Below.refl _ _).alloc (Nat.le_refl _) _⟩
  | true =>
    simp only [Bool.true_and]
    cases y
    all_goals
      go_enter Tryz.func46, Tryz.ntmps46
      go_wp2_with fail
      refine (SS.out _).mono ?_
      rintro e w1 ⟨rfl, rfl⟩
      go_wp2_with fail
      refine (KEYH.out _).mono ?_
      rintro e w1 ⟨rfl, b1⟩
      go_wp2
      go_ret
      exact ⟨rfl, tokW_below (t := ⟨5, s, 0, a⟩) b1⟩
theorem nil_list {s : ByteArray} (h : ¬ 0 < s.size) : s.toList = [] := by rw [ByteArray.toList_eq]; exact nil_of_size h
theorem rright_any (t : Tok) (w : World) (hs : t.text.size ≤ 100000000) : Calls Tryz.prog 46 #[tokV t] w (RB (rightB t) w) := by
  by_cases h0 : 0 ≤ t.at_
  · by_cases h1 : t.kind = 3 ∨ t.num = 0
    · rw [right_kind t h0 h1]
      obtain ⟨k, s, n, a⟩ := t
      simp only at h0 h1 hs ⊢
      by_cases g3 : k = 3
      · subst g3
        exact rright_3 s n a w h0 _ (Lib.hid rfl)
      · obtain rfl : n = 0 := by omega
        by_cases hz : 0 < s.size
        · by_cases g1 : k = 1
          · subst g1
            rw [show kindB 1 s 0 = (isw low tl s.data.toList && !key s.data.toList) from rfl, isw_1 s hz]
            exact rright_1 s a w hs h0 hz _ _ _ (Lib.hid rfl) (Lib.hid rfl) (Lib.hid rfl)
          · by_cases g2 : k = 2
            · subst g2
              rw [show kindB 2 s 0 = isw upp tl s.data.toList from rfl, isw_2 s hz]
              exact rright_2 s a w hs h0 hz _ _ _ (Lib.hid rfl) (Lib.hid rfl) (Lib.hid rfl)
            · by_cases g4 : k = 4
              · subst g4; exact rright_4 s a w h0 hs
              · by_cases g5 : k = 5
                · subst g5
                  rw [show kindB 5 s 0 = (isw opr opr s.data.toList && !key s.data.toList) from rfl, isw_5 s hz]
                  exact rright_5 s a w hs h0 hz _ _ (Lib.hid rfl) (Lib.hid rfl)
                · by_cases g6 : k = 6
                  · subst g6; exact rright_6 s a w h0
                  · have e : kindB k s 0 = false := by simp [kindB, g1, g2, g3, g4, g5, g6]
                    rw [e]
                    exact rright_0 k s 0 a w h0 (by simpa using g1) (by simpa using g2) (by simpa using g3) (by simpa using g4) (by simpa using g5) (by simpa using g6)
        · have hn := nil_of_size hz
          have hl := nil_list hz
          by_cases g1 : k = 1
          · subst g1
            rw [show kindB 1 s 0 = (isw low tl s.data.toList && !key s.data.toList) from rfl, hn]
            exact rzero_1 s 0 a w h0 (.inr ⟨rfl, hl⟩)
          · by_cases g2 : k = 2
            · subst g2
              rw [show kindB 2 s 0 = isw upp tl s.data.toList from rfl, hn]
              exact rzero_2 s 0 a w h0 (.inr ⟨rfl, hl⟩)
            · by_cases g4 : k = 4
              · subst g4; exact rright_4 s a w h0 hs
              · by_cases g5 : k = 5
                · subst g5
                  rw [show kindB 5 s 0 = (isw opr opr s.data.toList && !key s.data.toList) from rfl, hn]
                  exact rzero_5 s a w h0 hl
                · by_cases g6 : k = 6
                  · subst g6; exact rright_6 s a w h0
                  · have e : kindB k s 0 = false := by simp [kindB, g1, g2, g3, g4, g5, g6]
                    rw [e]
                    exact rright_0 k s 0 a w h0 (by simpa using g1) (by simpa using g2) (by simpa using g3) (by simpa using g4) (by simpa using g5) (by simpa using g6)
    · rw [right_num t h1]
      obtain ⟨k, s, n, a⟩ := t
      simp only at h0 h1 hs ⊢
      have hn : ¬ n = 0 := fun h => h1 (.inr h)
      by_cases g1 : k = 1
      · subst g1; exact rzero_1 s n a w h0 (.inl hn)
      · by_cases g2 : k = 2
        · subst g2; exact rzero_2 s n a w h0 (.inl hn)
        · by_cases g4 : k = 4
          · subst g4; exact rnum_4 s n a w h0 hn
          · by_cases g5 : k = 5
            · subst g5; exact rnum_5 s n a w h0 hn
            · by_cases g6 : k = 6
              · subst g6; exact rnum_6 s n a w h0 hn
              · exact rright_0 k s n a w h0 (by simpa using g1) (by simpa using g2) (by simp; omega) (by simpa using g4) (by simpa using g5) (by simpa using g6)
  · rw [right_at t h0]
    exact rright_at t.kind t.text t.num t.at_ w (by omega)
end Go.Proofs.YtncifeeinogcnaaGreatDoor.Lx
