/- Texts of this seat, one behind the other: SynC, SynD. -/
import Derived.Test.YtggjckalmlploaaGreatDoorKn41
import Derived.Test.YtggjckalmlploaaGreatDoorKn20
import Derived.Test.YtggjckalmlploaaGreatDoorKn02
import Derived.Test.YtggjckalmlploaaGreatDoorRows
import Derived.WalkKit
import Derived.ProofKit
import Derived.Below
import Derived.Deep.OwnRows
import Derived.Lib.Hide
import Derived.Lib.OthersKept
import Derived.Lib.TrimUEq
import Derived.Deep.RegionLaw
import Derived.Deep.QuietTactic
import Derived.BigQuiet
import Derived.Maps.AppendAt
import Derived.Lib.AppendStr
import Derived.Deep.DeepCutAuto
import Derived.Deep.RegionHeld3
import Derived.RowKit
import Derived.IntWalk
import Derived.OpenShut
import Derived.Laws.BytesArg
import Derived.Outline
import Derived.LoopTactic
import Derived.Laws.Rows
import Derived.Laws.RangeAny
import Derived.Lib.Builder
/- The contracts of Name and Con, of rightNum, textFault and fault. -/
set_option maxRecDepth 100000
namespace Go.Proofs.YtggjckalmlploaaGreatDoor
open Go.RowKit Go.Proofs.TreeMath
open Go.Proofs.YtggjckalmlploaaGreatDoor.Lx (quiet_left quiet_same_left below_drewN)
theorem right_n (s : ByteArray) (w : World) (hs : s.size ≤ 1000) : Calls Tryz.prog 39 #[.agg #[.int .i64 1, .string s, .int .i64 0, .int .i64 0]] w (RB (LexMath.rightB ⟨1, s, 0, 0⟩) w) := Lx.right_any ⟨1, s, 0, 0⟩ w (by simp only; omega)
theorem right_o (s : ByteArray) (w : World) (hs : s.size ≤ 1000) : Calls Tryz.prog 39 #[.agg #[.int .i64 5, .string s, .int .i64 0, .int .i64 0]] w (RB (LexMath.rightB ⟨5, s, 0, 0⟩) w) := Lx.right_any ⟨5, s, 0, 0⟩ w (by simp only; omega)
theorem right_c (s : ByteArray) (w : World) (hs : s.size ≤ 1000) : Calls Tryz.prog 39 #[.agg #[.int .i64 2, .string s, .int .i64 0, .int .i64 0]] w (RB (LexMath.rightB ⟨2, s, 0, 0⟩) w) := Lx.right_any ⟨2, s, 0, 0⟩ w (by simp only; omega)
theorem name_any (s : ByteArray) (w : World) (hs : s.size ≤ 1000) : Calls Tryz.prog 84 #[.string s] w (RB (nameB s) w) := by
  have A := Lib.hid (fun w => right_n s w hs)
  have B := Lib.hid (fun w => right_o s w hs)
  unfold nameB
  generalize LexMath.rightB ⟨1, s, 0, 0⟩ = x at *
  generalize LexMath.rightB ⟨5, s, 0, 0⟩ = y at *
  clear hs
  cases x
  · go_enter Tryz.func84, Tryz.ntmps84
    go_wp2_with fail
    refine (A.out _).mono ?_
    rintro e w1 ⟨rfl, b1⟩
    have B1 := Lib.hid b1
    clear b1
    go_wp2_with fail
    refine (B.out _).mono ?_
    rintro e w2 ⟨rfl, b2⟩
    have B2 := Lib.hid b2
    clear b2
    go_wp2_with fail
    go_ret
    exact ⟨rfl, B1.out.trans (B2.out.mono B1.out.size)⟩
  · go_enter Tryz.func84, Tryz.ntmps84
    go_wp2_with fail
    refine (A.out _).mono ?_
    rintro e w1 ⟨rfl, b1⟩
    have B1 := Lib.hid b1
    clear b1
    go_wp2_with fail
    go_ret
    exact ⟨rfl, B1.out⟩
theorem con_any (s : ByteArray) (w : World) (hs : s.size ≤ 1000) : Calls Tryz.prog 85 #[.string s] w (RB (conB s) w) := by
  have A := Lib.hid (fun w => right_c s w hs)
  unfold conB
  generalize LexMath.rightB ⟨2, s, 0, 0⟩ = x at *
  clear hs
  go_enter Tryz.func85, Tryz.ntmps85
  go_wp2_with fail
  refine (A.out _).mono ?_
  rintro e w1 ⟨rfl, b1⟩
  have B1 := Lib.hid b1
  clear b1
  go_wp2_with fail
  go_ret
  exact ⟨rfl, B1.out⟩
theorem num_eq (a b : Int) : (a == b) = decide (a = b) := by rw [Bool.eq_iff_iff]; simp
theorem rightNum_any (n : Nd) (w : World) : Calls Tryz.prog 60 #[n.val] w (RB (numB n.kind n.num) w) := by
  obtain ⟨k, s, m, d⟩ := n
  unfold Nd.val
  simp only
  have C := Lib.hid (fun W => Lx.wrap_any m W)
  by_cases h1 : k = 1
  · subst h1
    rw [show numB 1 m = (Lx.wr m == m) by simp [numB, num_eq]]
    generalize Lx.wr m = x at *
    go_enter Tryz.func60, Tryz.ntmps60
    go_wp2
    go_quiet ((go_at_call 75; first | exact quiet_left (C.out _) | exact quiet_same_left (C.out _)))
    all_goals go_wp2
    all_goals go_ret
    all_goals exact ⟨rfl, below_drewN ((Below.refl _ _).alloc (Nat.le_refl _) _) _⟩
  by_cases h2 : k = 23
  · subst h2
    rw [show numB 23 m = (Lx.wr m == m) by simp [numB, num_eq]]
    generalize Lx.wr m = x at *
    clear h1
    go_enter Tryz.func60, Tryz.ntmps60
    go_wp2
    go_quiet ((go_at_call 75; first | exact quiet_left (C.out _) | exact quiet_same_left (C.out _)))
    all_goals go_wp2
    all_goals go_ret
    all_goals exact ⟨rfl, below_drewN ((Below.refl _ _).alloc (Nat.le_refl _) _) _⟩
  rw [show numB k m = (m == 0) by simp [numB, num_eq, h1, h2]]
  have g1 : (k == 1) = false := by simpa using h1
  have g2 : (k == 23) = false := by simpa using h2
  clear h1 h2 C
  go_enter Tryz.func60, Tryz.ntmps60
  go_wp2
  go_ret
  exact ⟨rfl, (Below.refl _ _).alloc (Nat.le_refl _) _⟩
set_option maxHeartbeats 2000000 in
theorem textFault_any (n : Nd) (w : World) (hs : n.text.size ≤ 1000) : Calls Tryz.prog 62 #[n.val] w (RI (textE n.kind n.text) w) := by
  obtain ⟨k, s, m, d⟩ := n
  unfold Nd.val
  simp only at hs ⊢
  have A := Lib.hid (fun w => name_any s w hs)
  have B := Lib.hid (fun w => con_any s w hs)
  by_cases h1 : sortN k = 1
  · have e : textE k s = if nameB s then 0 else 62 := by simp [textE, h1]
    rw [e]
    have hk : k = 3 ∨ k = 5 ∨ k = 7 ∨ k = 8 ∨ k = 12 ∨ k = 22 := by
      unfold sortN at h1
      by_cases h : k = 3 ∨ k = 5 ∨ k = 7 ∨ k = 8 ∨ k = 12 ∨ k = 22
      · exact h
      · rw [if_neg h] at h1
        repeat' split at h1
        all_goals omega
    clear e h1
    generalize nameB s = x at *
    rcases hk with rfl | rfl | rfl | rfl | rfl | rfl <;> cases x
    all_goals
      go_enter Tryz.func62, Tryz.ntmps62
      go_wp2_with fail
      refine (A.out _).mono ?_
      rintro e w1 ⟨rfl, b1⟩
      have B1 := Lib.hid b1
      clear b1
      go_wp2_with fail
      go_ret
      exact ⟨rfl, ((Below.refl _ _).alloc (Nat.le_refl _) _).trans (B1.out.mono (by simp))⟩
  by_cases h2 : sortN k = 2
  · have e : textE k s = if conB s then 0 else 62 := by simp [textE, h2]
    rw [e]
    have hk : k = 4 ∨ k = 24 := by
      unfold sortN at h2
      repeat' split at h2
      all_goals omega
    clear e h1 h2
    generalize conB s = x at *
    rcases hk with rfl | rfl <;> cases x
    all_goals
      go_enter Tryz.func62, Tryz.ntmps62
      go_wp2_with fail
      refine (B.out _).mono ?_
      rintro e w1 ⟨rfl, b1⟩
      have B1 := Lib.hid b1
      clear b1
      go_wp2_with fail
      go_ret
      exact ⟨rfl, ((Below.refl _ _).alloc (Nat.le_refl _) _).trans (B1.out.mono (by simp))⟩
  by_cases h3 : sortN k = 3
  · have e : textE k s = if s.size ≤ 200 then 0 else 61 := by simp [textE, h3]
    rw [e]
    have hk : k = 2 := by
      unfold sortN at h3
      repeat' split at h3
      all_goals omega
    clear e h1 h2 h3 A B
    subst hk
    by_cases h : s.size ≤ 200
    · rw [if_pos h]
      have h' : decide ((s.size : Int) ≤ 200) = true := by simp; omega
      clear h hs
      go_enter Tryz.func62, Tryz.ntmps62
      go_wp2
      go_ret
      exact ⟨rfl, (Below.refl _ _).alloc (Nat.le_refl _) _⟩
    · rw [if_neg h]
      have h' : decide ((s.size : Int) ≤ 200) = false := by simp; omega
      clear h hs
      go_enter Tryz.func62, Tryz.ntmps62
      go_wp2
      go_ret
      exact ⟨rfl, (Below.refl _ _).alloc (Nat.le_refl _) _⟩
  have e : textE k s = if s = ByteArray.empty then 0 else 61 := by simp [textE, h1, h2, h3]
  rw [e]
  have hk : ¬ k = 3 ∧ ¬ k = 5 ∧ ¬ k = 7 ∧ ¬ k = 8 ∧ ¬ k = 12 ∧ ¬ k = 22 ∧ ¬ k = 4 ∧ ¬ k = 24 ∧ ¬ k = 2 := by
    unfold sortN at h1 h2 h3
    repeat' split at h1
    all_goals simp_all
  obtain ⟨a1, a2, a3, a4, a5, a6, a7, a8, a9⟩ := hk
  have g1 : (k == 3) = false := by simpa using a1
  have g2 : (k == 5) = false := by simpa using a2
  have g3 : (k == 7) = false := by simpa using a3
  have g4 : (k == 8) = false := by simpa using a4
  have g5 : (k == 12) = false := by simpa using a5
  have g6 : (k == 22) = false := by simpa using a6
  have g7 : (k == 4) = false := by simpa using a7
  have g8 : (k == 24) = false := by simpa using a8
  have g9 : (k == 2) = false := by simpa using a9
  clear e h1 h2 h3 A B a1 a2 a3 a4 a5 a6 a7 a8 a9
  by_cases h : s = ByteArray.empty
  · rw [if_pos h]
    subst h
    clear hs
    go_enter Tryz.func62, Tryz.ntmps62
    go_wp2
    go_ret
    exact ⟨rfl, (Below.refl _ _).alloc (Nat.le_refl _) _⟩
  · rw [if_neg h]
    have e2 : ¬ s.toList = [] := by
      intro h'
      rw [ByteArray.toList_eq] at h'
      obtain ⟨data⟩ := s
      have hd : data = #[] := by simpa using h'
      subst hd
      exact h rfl
    have e : s.toList.isEmpty = false := by
      cases hc : s.toList with
      | nil => exact absurd hc e2
      | cons _ _ => rfl
    clear h hs
    go_enter Tryz.func62, Tryz.ntmps62
    go_wp2
    go_ret
    exact ⟨rfl, (Below.refl _ _).alloc (Nat.le_refl _) _⟩
end Go.Proofs.YtggjckalmlploaaGreatDoor
/- The contract of fault. -/
set_option maxRecDepth 100000
namespace Go.Proofs.YtggjckalmlploaaGreatDoor
open Go.RowKit Go.Proofs.TreeMath
def nodeObj (k : Int) (s : ByteArray) (m d : Int) : Obj := .cells #[.int .i64 k, .string s, .int .i64 m, .int .i64 d] 37
theorem box_cells {w w1 : World} {k m d : Int} {s : ByteArray} (h2 : Below (w.heap.size + 1) (w.alloc (nodeObj k s m d)) w1) :
    w1.cell? ⟨w.heap.size, 0, none⟩ = some (.int .i64 k) ∧ w1.cell? ⟨w.heap.size, 1, none⟩ = some (.string s) ∧ w1.cell? ⟨w.heap.size, 2, none⟩ = some (.int .i64 m) ∧ w1.cell? ⟨w.heap.size, 3, none⟩ = some (.int .i64 d) := by
  have hb : w1.heap[w.heap.size]? = some (nodeObj k s m d) := by
    rw [h2.block _ (by omega)]
    show (w.heap.push _)[w.heap.size]? = _
    simp
  unfold nodeObj at hb
  exact ⟨Lib.cell_of_heap hb 0, Lib.cell_of_heap hb 1, Lib.cell_of_heap hb 2, Lib.cell_of_heap hb 3⟩
set_option maxHeartbeats 2000000 in
theorem fault_in (b off n c i : Nat) (k m d k2 p : Int) (s : ByteArray) (w : World) (hb : b < w.heap.size) (hi : i < n) (hnm : n ≤ 1000000) (_hnc : n ≤ c)
    (c0 : w.cell? ⟨b, off + i * 4, none⟩ = some (.int .i64 k)) (c1 : w.cell? ⟨b, off + i * 4 + 1, none⟩ = some (.string s)) (c2 : w.cell? ⟨b, off + i * 4 + 2, none⟩ = some (.int .i64 m)) (c3 : w.cell? ⟨b, off + i * 4 + 3, none⟩ = some (.int .i64 d))
    (hx : k = 8 → d = 2 → i + 1 < n ∧ w.cell? ⟨b, off + (i + 1) * 4, none⟩ = some (.int .i64 k2)) (hs : s.size ≤ 1000) :
    Calls Tryz.prog 29 #[.slice (some ⟨b, off, none⟩) n c, .int .i64 (i : Int), .int .i64 p] w (RI (faultE ⟨k, s, m, d⟩ k2 p) w) := by
  have HA := Lib.hid (fun W => allows_any p k W)
  have HN : Hid (∀ W : World, Calls Tryz.prog 60 #[.agg #[.int .i64 k, .string s, .int .i64 m, .int .i64 d]] W (RB (numB k m) W)) := Lib.hid (fun W => rightNum_any ⟨k, s, m, d⟩ W)
  have HK : Hid (∀ W : World, Calls Tryz.prog 61 #[.agg #[.int .i64 k, .string s, .int .i64 m, .int .i64 d]] W (RB (kidsB k d) W)) := Lib.hid (fun W => rightKids_any ⟨k, s, m, d⟩ W)
  have HT : Hid (∀ W : World, Calls Tryz.prog 62 #[.agg #[.int .i64 k, .string s, .int .i64 m, .int .i64 d]] W (RI (textE k s) W)) := Lib.hid (fun W => textFault_any ⟨k, s, m, d⟩ W hs)
  have hz : kidsB k d = true → k = 8 → d = 2 := by
    intro h e
    subst e
    simpa [kidsB] using h
  have hin : ((i : Int) < (n : Int)) := by omega
  have hb0 : ∀ W : World, Below W.heap.size W (W.alloc (.cells #[.int .i64 k, .string s, .int .i64 m, .int .i64 d] 37)) := fun W => (Below.refl _ _).alloc (Nat.le_refl _) _
  clear hs
  unfold faultE
  simp only
  generalize allowsB p k = x at *
  generalize numB k m = y at *
  generalize hkb : kidsB k d = z at *
  generalize textE k s = t at *
  clear hkb
  have HB0 := Lib.hid hb0
  clear hb0
  cases x
  · go_enter Tryz.func29, Tryz.ntmps29
    go_wp2_with fail
    refine (HA.out _).mono ?_
    rintro e w1 ⟨rfl, rfl⟩
    go_wp2_with fail
    go_ret
    exact ⟨rfl, HB0.out _⟩
  cases y
  · go_enter Tryz.func29, Tryz.ntmps29
    go_wp2_with fail
    refine (HA.out _).mono ?_
    rintro e w1 ⟨rfl, rfl⟩
    go_wp2_with fail
    refine (HN.out _).mono ?_
    rintro e w1 ⟨rfl, b1⟩
    have B1 := Lib.hid ((HB0.out w).trans (b1.mono (HB0.out w).size))
    clear b1
    go_wp2_with fail
    go_ret
    exact ⟨rfl, B1.out⟩
  cases z
  · go_enter Tryz.func29, Tryz.ntmps29
    go_wp2_with fail
    refine (HA.out _).mono ?_
    rintro e w1 ⟨rfl, rfl⟩
    go_wp2_with fail
    refine (HN.out _).mono ?_
    rintro e w1 ⟨rfl, b1⟩
    have B1 := Lib.hid ((HB0.out w).trans (b1.mono (HB0.out w).size))
    have BX := Lib.hid (show Below (w.heap.size + 1) (w.alloc (nodeObj k s m d)) w1 from by simpa [nodeObj] using b1)
    obtain ⟨q0, q1, q2, q3⟩ := box_cells BX.out
    clear b1
    go_wp2_with fail
    refine (HK.out _).mono ?_
    rintro e w2 ⟨rfl, b2⟩
    have B2 := Lib.hid (B1.out.trans (b2.mono B1.out.size))
    clear b2
    go_wp2_with fail
    go_ret
    exact ⟨rfl, B2.out⟩
  have HZ := Lib.hid (hz rfl)
  clear hz
  by_cases hk : k = 8
  · have hd := HZ.out hk
    obtain ⟨hi2, cx⟩ := hx hk hd
    subst hk
    subst hd
    have hin2 : ((i : Int) + 1 < (n : Int)) := by omega
    have hw1 : IntKind.i64.wrap ((i : Int) + 1) = ((i + 1 : Nat) : Int) := by rw [IntWalk.i64_in _ (by omega)]; omega
    have CX := Lib.hid cx
    clear hx cx
    by_cases h5 : k2 = 5
    · subst h5
      go_enter Tryz.func29, Tryz.ntmps29
      go_wp2_with fail
      refine (HA.out _).mono ?_
      rintro e w1 ⟨rfl, rfl⟩
      go_wp2_with fail
      refine (HN.out _).mono ?_
      rintro e w1 ⟨rfl, b1⟩
      have B1 := Lib.hid ((HB0.out w).trans (b1.mono (HB0.out w).size))
      have BX := Lib.hid (show Below (w.heap.size + 1) (w.alloc (nodeObj 8 s m 2)) w1 from by simpa [nodeObj] using b1)
      obtain ⟨q0, q1, q2, q3⟩ := box_cells BX.out
      clear b1
      go_wp2_with fail
      refine (HK.out _).mono ?_
      rintro e w2 ⟨rfl, b2⟩
      have B2 := Lib.hid (B1.out.trans (b2.mono B1.out.size))
      have BX2 := Lib.hid (BX.out.trans (b2.mono (by have := BX.out.size; simp at this; omega)))
      obtain ⟨p0, p1, p2, p3⟩ := box_cells BX2.out
      have cx : w2.cell? ⟨b, off + (i + 1) * 4, none⟩ = some (.int .i64 5) := (B2.out.cell hb).trans CX.out
      clear b2 q0 q1 q2 q3
      go_wp2_with fail
      refine (HT.out _).mono ?_
      rintro e w3 ⟨rfl, b3⟩
      have B3 := Lib.hid (B2.out.trans (b3.mono B2.out.size))
      clear b3
      go_wp2_with fail
      go_ret
      exact ⟨rfl, B3.out⟩
    · have h5' : (k2 != 5) = true := by simpa using h5
      have er : (if (true && true && true) = true then if (8 : Int) = 8 ∧ k2 ≠ 5 then 61 else t else 61) = (61 : Int) := by simp [h5]
      rw [er]
      clear h5 er
      go_enter Tryz.func29, Tryz.ntmps29
      go_wp2_with fail
      refine (HA.out _).mono ?_
      rintro e w1 ⟨rfl, rfl⟩
      go_wp2_with fail
      refine (HN.out _).mono ?_
      rintro e w1 ⟨rfl, b1⟩
      have B1 := Lib.hid ((HB0.out w).trans (b1.mono (HB0.out w).size))
      have BX := Lib.hid (show Below (w.heap.size + 1) (w.alloc (nodeObj 8 s m 2)) w1 from by simpa [nodeObj] using b1)
      obtain ⟨q0, q1, q2, q3⟩ := box_cells BX.out
      clear b1
      go_wp2_with fail
      refine (HK.out _).mono ?_
      rintro e w2 ⟨rfl, b2⟩
      have B2 := Lib.hid (B1.out.trans (b2.mono B1.out.size))
      have BX2 := Lib.hid (BX.out.trans (b2.mono (by have := BX.out.size; simp at this; omega)))
      obtain ⟨p0, p1, p2, p3⟩ := box_cells BX2.out
      have cx : w2.cell? ⟨b, off + (i + 1) * 4, none⟩ = some (.int .i64 k2) := (B2.out.cell hb).trans CX.out
      clear b2 q0 q1 q2 q3
      go_wp2_with fail
      go_ret
      exact ⟨rfl, B2.out⟩
  · have g8 : (k == 8) = false := by simpa using hk
    have er : (if (true && true && true) = true then if k = 8 ∧ k2 ≠ 5 then 61 else t else 61) = t := by simp [hk]
    rw [er]
    clear hx hk er
    go_enter Tryz.func29, Tryz.ntmps29
    go_wp2_with fail
    refine (HA.out _).mono ?_
    rintro e w1 ⟨rfl, rfl⟩
    go_wp2_with fail
    refine (HN.out _).mono ?_
    rintro e w1 ⟨rfl, b1⟩
    have B1 := Lib.hid ((HB0.out w).trans (b1.mono (HB0.out w).size))
    have BX := Lib.hid (show Below (w.heap.size + 1) (w.alloc (nodeObj k s m d)) w1 from by simpa [nodeObj] using b1)
    obtain ⟨q0, q1, q2, q3⟩ := box_cells BX.out
    clear b1
    go_wp2_with fail
    refine (HK.out _).mono ?_
    rintro e w2 ⟨rfl, b2⟩
    have B2 := Lib.hid (B1.out.trans (b2.mono B1.out.size))
    have BX2 := Lib.hid (BX.out.trans (b2.mono (by have := BX.out.size; simp at this; omega)))
    obtain ⟨p0, p1, p2, p3⟩ := box_cells BX2.out
    clear b2 q0 q1 q2 q3
    go_wp2_with fail
    refine (HT.out _).mono ?_
    rintro e w3 ⟨rfl, b3⟩
    have B3 := Lib.hid (B2.out.trans (b3.mono B2.out.size))
    clear b3
    go_wp2_with fail
    go_ret
    exact ⟨rfl, B3.out⟩
theorem fault_any (b off c : Nat) (ns : List Nd) (i : Nat) (p : Int) (w : World) (hnm : ns.length ≤ 1000000) (hnc : ns.length ≤ c) (hb : b < w.heap.size) (hc : CellsIn w b off (nodeCells ns)) (hi : i < ns.length)
    (hx : (ns.getD i default).kids = 2 → i + 1 < ns.length) (hs : (ns.getD i default).text.size ≤ 1000) :
    Calls Tryz.prog 29 #[.slice (some ⟨b, off, none⟩) ns.length c, .int .i64 (i : Int), .int .i64 p] w (RI (see1 ns i p) w) := by
  obtain ⟨c0, c1, c2, c3⟩ := hc.node i hi
  exact fault_in b off ns.length c i _ _ _ (ns.getD (i + 1) default).kind p _ w hb hi hnm hnc c0 c1 c2 c3 (fun _ h => ⟨hx h, (hc.node (i + 1) (hx h)).1⟩) hs
end Go.Proofs.YtggjckalmlploaaGreatDoor
