/- The document's node: the leaves ahead of the numbers. -/
import Derived.Test.YtlalnmefppbebaaSynQ
namespace Go.Proofs.Ytlalnmefppbebaa
open Go.RowKit Go.Proofs.TreeMath
open Go.Proofs.Ytlalnmefppbebaa.Lx (quiet_left quiet_same_left below_drewN)
set_option linter.unusedVariables false
set_option maxRecDepth 100000 in
set_option maxHeartbeats 16000000 in
theorem rnode_a (b off n c i : Nat) (k m d : Int) (s : ByteArray) (pat : Bool) (w : World) (hi : i < n) (hnm : n ≤ 1000000)
    (c0 : w.cell? ⟨b, off + i * 4, none⟩ = some (.int .i64 k)) (c1 : w.cell? ⟨b, off + i * 4 + 1, none⟩ = some (.string s)) (c2 : w.cell? ⟨b, off + i * 4 + 2, none⟩ = some (.int .i64 m)) (c3 : w.cell? ⟨b, off + i * 4 + 3, none⟩ = some (.int .i64 d))
    (SRT : Hid (∀ W : World, Calls Try.prog 76 #[.int .i64 k] W (Pure (.int .i64 (-1)) W))) (gk1 : (k == 1) = false) (gk23 : (k == 23) = false) :
    Calls Try.prog 54 #[.slice (some ⟨b, off, none⟩) n c, .int .i64 (i : Int), .bool pat] w (RI 61 w) := by
  have hin : ((i : Int) < (n : Int)) := by omega
  go_enter Try.func54, Try.ntmps54
  go_wp2_with (first
    | (go_at_call 76; refine (SRT.out _).mono ?_; rintro e w1 ⟨rfl, rfl⟩)
    | go_in)
  go_quiet (fail)
  all_goals go_wp2
  all_goals go_ret
  all_goals exact ⟨rfl, below_drewN ((Below.refl _ _).alloc (Nat.le_refl _) _) _⟩
set_option maxRecDepth 100000 in
set_option maxHeartbeats 16000000 in
theorem rnode_b (b off n c i : Nat) (k m d : Int) (s : ByteArray) (pat : Bool) (w : World) (S : Int) (hi : i < n) (hnm : n ≤ 1000000)
    (c0 : w.cell? ⟨b, off + i * 4, none⟩ = some (.int .i64 k)) (c1 : w.cell? ⟨b, off + i * 4 + 1, none⟩ = some (.string s)) (c2 : w.cell? ⟨b, off + i * 4 + 2, none⟩ = some (.int .i64 m)) (c3 : w.cell? ⟨b, off + i * 4 + 3, none⟩ = some (.int .i64 d))
    (SRT : Hid (∀ W : World, Calls Try.prog 76 #[.int .i64 k] W (Pure (.int .i64 S) W))) (IP : Hid (∀ W : World, Calls Try.prog 27 #[.int .i64 k] W (fun e w' => e = .returned (.bool (!pat)) ∧ W = w'))) (gS : decide (S < 0) = false) (gk1 : (k == 1) = false) (gk23 : (k == 23) = false) :
    Calls Try.prog 54 #[.slice (some ⟨b, off, none⟩) n c, .int .i64 (i : Int), .bool pat] w (RI 61 w) := by
  have hin : ((i : Int) < (n : Int)) := by omega
  go_enter Try.func54, Try.ntmps54
  go_wp2_with (first
    | (go_at_call 76; refine (SRT.out _).mono ?_; rintro e w1 ⟨rfl, rfl⟩)
    | go_in)
  go_quiet ((first | (go_at_call 27; first | exact quiet_left (IP.out _) | exact quiet_same_left (IP.out _))))
  all_goals go_wp2
  all_goals go_ret
  all_goals exact ⟨rfl, below_drewN ((Below.refl _ _).alloc (Nat.le_refl _) _) _⟩
set_option maxRecDepth 100000 in
set_option maxHeartbeats 16000000 in
theorem rnode_b1 (b off n c i : Nat) (k m d : Int) (s : ByteArray) (pat : Bool) (w : World) (S : Int) (hi : i < n) (hnm : n ≤ 1000000)
    (c0 : w.cell? ⟨b, off + i * 4, none⟩ = some (.int .i64 k)) (c1 : w.cell? ⟨b, off + i * 4 + 1, none⟩ = some (.string s)) (c2 : w.cell? ⟨b, off + i * 4 + 2, none⟩ = some (.int .i64 m)) (c3 : w.cell? ⟨b, off + i * 4 + 3, none⟩ = some (.int .i64 d))
    (SRT : Hid (∀ W : World, Calls Try.prog 76 #[.int .i64 k] W (Pure (.int .i64 S) W))) (IP : Hid (∀ W : World, Calls Try.prog 27 #[.int .i64 k] W (fun e w' => e = .returned (.bool (!pat)) ∧ W = w'))) (gS : decide (S < 0) = false) (gk1 : (k == 1) = true) :
    Calls Try.prog 54 #[.slice (some ⟨b, off, none⟩) n c, .int .i64 (i : Int), .bool pat] w (RI 61 w) := by
  have hin : ((i : Int) < (n : Int)) := by omega
  go_enter Try.func54, Try.ntmps54
  go_wp2_with (first
    | (go_at_call 76; refine (SRT.out _).mono ?_; rintro e w1 ⟨rfl, rfl⟩)
    | go_in)
  go_quiet ((first | (go_at_call 27; first | exact quiet_left (IP.out _) | exact quiet_same_left (IP.out _))))
  all_goals go_wp2
  all_goals go_ret
  all_goals exact ⟨rfl, below_drewN ((Below.refl _ _).alloc (Nat.le_refl _) _) _⟩
set_option maxRecDepth 100000 in
set_option maxHeartbeats 16000000 in
theorem rnode_b23 (b off n c i : Nat) (k m d : Int) (s : ByteArray) (pat : Bool) (w : World) (S : Int) (hi : i < n) (hnm : n ≤ 1000000)
    (c0 : w.cell? ⟨b, off + i * 4, none⟩ = some (.int .i64 k)) (c1 : w.cell? ⟨b, off + i * 4 + 1, none⟩ = some (.string s)) (c2 : w.cell? ⟨b, off + i * 4 + 2, none⟩ = some (.int .i64 m)) (c3 : w.cell? ⟨b, off + i * 4 + 3, none⟩ = some (.int .i64 d))
    (SRT : Hid (∀ W : World, Calls Try.prog 76 #[.int .i64 k] W (Pure (.int .i64 S) W))) (IP : Hid (∀ W : World, Calls Try.prog 27 #[.int .i64 k] W (fun e w' => e = .returned (.bool (!pat)) ∧ W = w'))) (gS : decide (S < 0) = false) (gk1 : (k == 1) = false) (gk23 : (k == 23) = true) :
    Calls Try.prog 54 #[.slice (some ⟨b, off, none⟩) n c, .int .i64 (i : Int), .bool pat] w (RI 61 w) := by
  have hin : ((i : Int) < (n : Int)) := by omega
  go_enter Try.func54, Try.ntmps54
  go_wp2_with (first
    | (go_at_call 76; refine (SRT.out _).mono ?_; rintro e w1 ⟨rfl, rfl⟩)
    | go_in)
  go_quiet ((first | (go_at_call 27; first | exact quiet_left (IP.out _) | exact quiet_same_left (IP.out _))))
  all_goals go_wp2
  all_goals go_ret
  all_goals exact ⟨rfl, below_drewN ((Below.refl _ _).alloc (Nat.le_refl _) _) _⟩
set_option maxRecDepth 100000 in
set_option maxHeartbeats 16000000 in
theorem rnode_c (b off n c i : Nat) (k m d : Int) (s : ByteArray) (pat : Bool) (w : World) (S : Int) (hi : i < n) (hnm : n ≤ 1000000)
    (c0 : w.cell? ⟨b, off + i * 4, none⟩ = some (.int .i64 k)) (c1 : w.cell? ⟨b, off + i * 4 + 1, none⟩ = some (.string s)) (c2 : w.cell? ⟨b, off + i * 4 + 2, none⟩ = some (.int .i64 m)) (c3 : w.cell? ⟨b, off + i * 4 + 3, none⟩ = some (.int .i64 d))
    (SRT : Hid (∀ W : World, Calls Try.prog 76 #[.int .i64 k] W (Pure (.int .i64 S) W))) (IP : Hid (∀ W : World, Calls Try.prog 27 #[.int .i64 k] W (fun e w' => e = .returned (.bool pat) ∧ W = w'))) (KD : Hid (∀ W : World, Calls Try.prog 77 #[.int .i64 k, .int .i64 d] W (fun e w' => e = .returned (.bool false) ∧ W = w'))) (gS : decide (S < 0) = false) (gk1 : (k == 1) = false) (gk23 : (k == 23) = false) :
    Calls Try.prog 54 #[.slice (some ⟨b, off, none⟩) n c, .int .i64 (i : Int), .bool pat] w (RI 61 w) := by
  have hin : ((i : Int) < (n : Int)) := by omega
  go_enter Try.func54, Try.ntmps54
  go_wp2_with (first
    | (go_at_call 76; refine (SRT.out _).mono ?_; rintro e w1 ⟨rfl, rfl⟩)
    | go_in)
  go_quiet ((first | (go_at_call 27; first | exact quiet_left (IP.out _) | exact quiet_same_left (IP.out _)) | (go_at_call 77; first | exact quiet_left (KD.out _) | exact quiet_same_left (KD.out _))))
  all_goals go_wp2
  all_goals go_ret
  all_goals exact ⟨rfl, below_drewN ((Below.refl _ _).alloc (Nat.le_refl _) _) _⟩
set_option maxRecDepth 100000 in
set_option maxHeartbeats 16000000 in
theorem rnode_c1 (b off n c i : Nat) (k m d : Int) (s : ByteArray) (pat : Bool) (w : World) (S : Int) (hi : i < n) (hnm : n ≤ 1000000)
    (c0 : w.cell? ⟨b, off + i * 4, none⟩ = some (.int .i64 k)) (c1 : w.cell? ⟨b, off + i * 4 + 1, none⟩ = some (.string s)) (c2 : w.cell? ⟨b, off + i * 4 + 2, none⟩ = some (.int .i64 m)) (c3 : w.cell? ⟨b, off + i * 4 + 3, none⟩ = some (.int .i64 d))
    (SRT : Hid (∀ W : World, Calls Try.prog 76 #[.int .i64 k] W (Pure (.int .i64 S) W))) (IP : Hid (∀ W : World, Calls Try.prog 27 #[.int .i64 k] W (fun e w' => e = .returned (.bool pat) ∧ W = w'))) (KD : Hid (∀ W : World, Calls Try.prog 77 #[.int .i64 k, .int .i64 d] W (fun e w' => e = .returned (.bool false) ∧ W = w'))) (gS : decide (S < 0) = false) (gk1 : (k == 1) = true) :
    Calls Try.prog 54 #[.slice (some ⟨b, off, none⟩) n c, .int .i64 (i : Int), .bool pat] w (RI 61 w) := by
  have hin : ((i : Int) < (n : Int)) := by omega
  go_enter Try.func54, Try.ntmps54
  go_wp2_with (first
    | (go_at_call 76; refine (SRT.out _).mono ?_; rintro e w1 ⟨rfl, rfl⟩)
    | go_in)
  go_quiet ((first | (go_at_call 27; first | exact quiet_left (IP.out _) | exact quiet_same_left (IP.out _)) | (go_at_call 77; first | exact quiet_left (KD.out _) | exact quiet_same_left (KD.out _))))
  all_goals go_wp2
  all_goals go_ret
  all_goals exact ⟨rfl, below_drewN ((Below.refl _ _).alloc (Nat.le_refl _) _) _⟩
set_option maxRecDepth 100000 in
set_option maxHeartbeats 16000000 in
theorem rnode_c23 (b off n c i : Nat) (k m d : Int) (s : ByteArray) (pat : Bool) (w : World) (S : Int) (hi : i < n) (hnm : n ≤ 1000000)
    (c0 : w.cell? ⟨b, off + i * 4, none⟩ = some (.int .i64 k)) (c1 : w.cell? ⟨b, off + i * 4 + 1, none⟩ = some (.string s)) (c2 : w.cell? ⟨b, off + i * 4 + 2, none⟩ = some (.int .i64 m)) (c3 : w.cell? ⟨b, off + i * 4 + 3, none⟩ = some (.int .i64 d))
    (SRT : Hid (∀ W : World, Calls Try.prog 76 #[.int .i64 k] W (Pure (.int .i64 S) W))) (IP : Hid (∀ W : World, Calls Try.prog 27 #[.int .i64 k] W (fun e w' => e = .returned (.bool pat) ∧ W = w'))) (KD : Hid (∀ W : World, Calls Try.prog 77 #[.int .i64 k, .int .i64 d] W (fun e w' => e = .returned (.bool false) ∧ W = w'))) (gS : decide (S < 0) = false) (gk1 : (k == 1) = false) (gk23 : (k == 23) = true) :
    Calls Try.prog 54 #[.slice (some ⟨b, off, none⟩) n c, .int .i64 (i : Int), .bool pat] w (RI 61 w) := by
  have hin : ((i : Int) < (n : Int)) := by omega
  go_enter Try.func54, Try.ntmps54
  go_wp2_with (first
    | (go_at_call 76; refine (SRT.out _).mono ?_; rintro e w1 ⟨rfl, rfl⟩)
    | go_in)
  go_quiet ((first | (go_at_call 27; first | exact quiet_left (IP.out _) | exact quiet_same_left (IP.out _)) | (go_at_call 77; first | exact quiet_left (KD.out _) | exact quiet_same_left (KD.out _))))
  all_goals go_wp2
  all_goals go_ret
  all_goals exact ⟨rfl, below_drewN ((Below.refl _ _).alloc (Nat.le_refl _) _) _⟩
end Go.Proofs.Ytlalnmefppbebaa
