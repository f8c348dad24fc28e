/- The document's node: texts. -/
import Derived.Test.YtlalnmefppbebaaSynQ
namespace Go.Proofs.Ytlalnmefppbebaa
open Go.RowKit Go.Proofs.TreeMath
open Go.Proofs.Ytlalnmefppbebaa.Lx (quiet_left quiet_same_left below_drewN)
set_option linter.unusedVariables false
set_option maxRecDepth 100000 in
set_option maxHeartbeats 16000000 in
theorem rnode_h (b off n c i : Nat) (k m d : Int) (s : ByteArray) (pat : Bool) (w : World) (hi : i < n) (hnm : n ≤ 1000000)
    (c0 : w.cell? ⟨b, off + i * 4, none⟩ = some (.int .i64 k)) (c1 : w.cell? ⟨b, off + i * 4 + 1, none⟩ = some (.string s)) (c2 : w.cell? ⟨b, off + i * 4 + 2, none⟩ = some (.int .i64 m)) (c3 : w.cell? ⟨b, off + i * 4 + 3, none⟩ = some (.int .i64 d))
    (SRT : Hid (∀ W : World, Calls Try.prog 76 #[.int .i64 k] W (Pure (.int .i64 0) W))) (IP : Hid (∀ W : World, Calls Try.prog 27 #[.int .i64 k] W (fun e w' => e = .returned (.bool pat) ∧ W = w'))) (KD : Hid (∀ W : World, Calls Try.prog 77 #[.int .i64 k, .int .i64 d] W (fun e w' => e = .returned (.bool true) ∧ W = w'))) (gk1 : (k == 1) = false) (gk23 : (k == 23) = false) (gk8 : (k == 8) = false) (hm : m = 0) (ht : s = ByteArray.empty) :
    Calls Try.prog 54 #[.slice (some ⟨b, off, none⟩) n c, .int .i64 (i : Int), .bool pat] w (RI 0 w) := by
  have hin : ((i : Int) < (n : Int)) := by omega
  subst hm
  subst ht
  go_enter Try.func54, Try.ntmps54
  go_wp2_with (first
    | (go_at_call 76; refine (SRT.out _).mono ?_; rintro e w1 ⟨rfl, rfl⟩)
    | go_in)
  go_quiet ((first | (go_at_call 27; first | exact quiet_left (IP.out _) | exact quiet_same_left (IP.out _)) | (go_at_call 77; first | exact quiet_left (KD.out _) | exact quiet_same_left (KD.out _))))
  all_goals go_wp2
  all_goals go_ret
  all_goals exact ⟨rfl, below_drewN ((Below.refl _ _).alloc (Nat.le_refl _) _) _⟩
set_option maxRecDepth 100000 in
set_option maxHeartbeats 16000000 in
theorem rnode_i (b off n c i : Nat) (k m d : Int) (s : ByteArray) (pat : Bool) (w : World) (hi : i < n) (hnm : n ≤ 1000000)
    (c0 : w.cell? ⟨b, off + i * 4, none⟩ = some (.int .i64 k)) (c1 : w.cell? ⟨b, off + i * 4 + 1, none⟩ = some (.string s)) (c2 : w.cell? ⟨b, off + i * 4 + 2, none⟩ = some (.int .i64 m)) (c3 : w.cell? ⟨b, off + i * 4 + 3, none⟩ = some (.int .i64 d))
    (SRT : Hid (∀ W : World, Calls Try.prog 76 #[.int .i64 k] W (Pure (.int .i64 0) W))) (IP : Hid (∀ W : World, Calls Try.prog 27 #[.int .i64 k] W (fun e w' => e = .returned (.bool pat) ∧ W = w'))) (KD : Hid (∀ W : World, Calls Try.prog 77 #[.int .i64 k, .int .i64 d] W (fun e w' => e = .returned (.bool true) ∧ W = w'))) (gk1 : (k == 1) = false) (gk23 : (k == 23) = false) (hm : m = 0) (t2 : ¬ s.toList = []) (t3 : s.toList.isEmpty = false) :
    Calls Try.prog 54 #[.slice (some ⟨b, off, none⟩) n c, .int .i64 (i : Int), .bool pat] w (RI 61 w) := by
  have hin : ((i : Int) < (n : Int)) := by omega
  subst hm
  go_enter Try.func54, Try.ntmps54
  go_wp2_with (first
    | (go_at_call 76; refine (SRT.out _).mono ?_; rintro e w1 ⟨rfl, rfl⟩)
    | go_in)
  go_quiet ((first | (go_at_call 27; first | exact quiet_left (IP.out _) | exact quiet_same_left (IP.out _)) | (go_at_call 77; first | exact quiet_left (KD.out _) | exact quiet_same_left (KD.out _))))
  all_goals go_wp2
  all_goals go_ret
  all_goals exact ⟨rfl, below_drewN ((Below.refl _ _).alloc (Nat.le_refl _) _) _⟩
set_option maxRecDepth 100000 in
set_option maxHeartbeats 16000000 in
theorem rnode_j (b off n c i : Nat) (k m d : Int) (s : ByteArray) (pat : Bool) (w : World) (hi : i < n) (hnm : n ≤ 1000000)
    (c0 : w.cell? ⟨b, off + i * 4, none⟩ = some (.int .i64 k)) (c1 : w.cell? ⟨b, off + i * 4 + 1, none⟩ = some (.string s)) (c2 : w.cell? ⟨b, off + i * 4 + 2, none⟩ = some (.int .i64 m)) (c3 : w.cell? ⟨b, off + i * 4 + 3, none⟩ = some (.int .i64 d))
    (SRT : Hid (∀ W : World, Calls Try.prog 76 #[.int .i64 k] W (Pure (.int .i64 3) W))) (IP : Hid (∀ W : World, Calls Try.prog 27 #[.int .i64 k] W (fun e w' => e = .returned (.bool pat) ∧ W = w'))) (KD : Hid (∀ W : World, Calls Try.prog 77 #[.int .i64 k, .int .i64 d] W (fun e w' => e = .returned (.bool true) ∧ W = w'))) (gk1 : (k == 1) = false) (gk23 : (k == 23) = false) (gk8 : (k == 8) = false) (hm : m = 0) (gl : decide ((200 : Int) < (s.size : Int)) = false) :
    Calls Try.prog 54 #[.slice (some ⟨b, off, none⟩) n c, .int .i64 (i : Int), .bool pat] w (RI 0 w) := by
  have hin : ((i : Int) < (n : Int)) := by omega
  subst hm
  go_enter Try.func54, Try.ntmps54
  go_wp2_with (first
    | (go_at_call 76; refine (SRT.out _).mono ?_; rintro e w1 ⟨rfl, rfl⟩)
    | go_in)
  go_quiet ((first | (go_at_call 27; first | exact quiet_left (IP.out _) | exact quiet_same_left (IP.out _)) | (go_at_call 77; first | exact quiet_left (KD.out _) | exact quiet_same_left (KD.out _))))
  all_goals go_wp2
  all_goals go_ret
  all_goals exact ⟨rfl, below_drewN ((Below.refl _ _).alloc (Nat.le_refl _) _) _⟩
set_option maxRecDepth 100000 in
set_option maxHeartbeats 16000000 in
theorem rnode_k (b off n c i : Nat) (k m d : Int) (s : ByteArray) (pat : Bool) (w : World) (hi : i < n) (hnm : n ≤ 1000000)
    (c0 : w.cell? ⟨b, off + i * 4, none⟩ = some (.int .i64 k)) (c1 : w.cell? ⟨b, off + i * 4 + 1, none⟩ = some (.string s)) (c2 : w.cell? ⟨b, off + i * 4 + 2, none⟩ = some (.int .i64 m)) (c3 : w.cell? ⟨b, off + i * 4 + 3, none⟩ = some (.int .i64 d))
    (SRT : Hid (∀ W : World, Calls Try.prog 76 #[.int .i64 k] W (Pure (.int .i64 3) W))) (IP : Hid (∀ W : World, Calls Try.prog 27 #[.int .i64 k] W (fun e w' => e = .returned (.bool pat) ∧ W = w'))) (KD : Hid (∀ W : World, Calls Try.prog 77 #[.int .i64 k, .int .i64 d] W (fun e w' => e = .returned (.bool true) ∧ W = w'))) (gk1 : (k == 1) = false) (gk23 : (k == 23) = false) (hm : m = 0) (gl : decide ((200 : Int) < (s.size : Int)) = true) :
    Calls Try.prog 54 #[.slice (some ⟨b, off, none⟩) n c, .int .i64 (i : Int), .bool pat] w (RI 61 w) := by
  have hin : ((i : Int) < (n : Int)) := by omega
  subst hm
  go_enter Try.func54, Try.ntmps54
  go_wp2_with (first
    | (go_at_call 76; refine (SRT.out _).mono ?_; rintro e w1 ⟨rfl, rfl⟩)
    | go_in)
  go_quiet ((first | (go_at_call 27; first | exact quiet_left (IP.out _) | exact quiet_same_left (IP.out _)) | (go_at_call 77; first | exact quiet_left (KD.out _) | exact quiet_same_left (KD.out _))))
  all_goals go_wp2
  all_goals go_ret
  all_goals exact ⟨rfl, below_drewN ((Below.refl _ _).alloc (Nat.le_refl _) _) _⟩
set_option maxRecDepth 100000 in
set_option maxHeartbeats 16000000 in
theorem rnode_l (b off n c i : Nat) (k m d : Int) (s : ByteArray) (pat : Bool) (w : World) (k2 R : Int) (y : Bool) (hi : i < n) (hnm : n ≤ 1000000)
    (c0 : w.cell? ⟨b, off + i * 4, none⟩ = some (.int .i64 k)) (c1 : w.cell? ⟨b, off + i * 4 + 1, none⟩ = some (.string s)) (c2 : w.cell? ⟨b, off + i * 4 + 2, none⟩ = some (.int .i64 m)) (c3 : w.cell? ⟨b, off + i * 4 + 3, none⟩ = some (.int .i64 d))
    (SRT : Hid (∀ W : World, Calls Try.prog 76 #[.int .i64 k] W (Pure (.int .i64 1) W))) (IP : Hid (∀ W : World, Calls Try.prog 27 #[.int .i64 k] W (fun e w' => e = .returned (.bool pat) ∧ W = w'))) (KD : Hid (∀ W : World, Calls Try.prog 77 #[.int .i64 k, .int .i64 d] W (fun e w' => e = .returned (.bool true) ∧ W = w'))) (NM : Hid (∀ W : World, Calls Try.prog 16 #[.string s] W (RB y W))) (HR : Hid (R = if y then 0 else 62)) (gk1 : (k == 1) = false) (gk23 : (k == 23) = false) (hm : m = 0) (gk8 : (k == 8) = true) (hb : b < w.heap.size) (hin2 : ((i : Int) + 1 < (n : Int))) (cx : w.cell? ⟨b, off + (i + 1) * 4, none⟩ = some (.int .i64 k2)) (h5 : k2 = 5) :
    Calls Try.prog 54 #[.slice (some ⟨b, off, none⟩) n c, .int .i64 (i : Int), .bool pat] w (RI R w) := by
  have hin : ((i : Int) < (n : Int)) := by omega
  subst hm
  subst h5
  have cx2 : (w.alloc (.cells #[.int .i64 k, .string s, .int .i64 0, .int .i64 d] 42)).cell? ⟨b, off + (i + 1) * 4, none⟩ = some (.int .i64 5) := by
    rw [World.cell?_of_block (w := w) (((Below.refl w.heap.size w).alloc (Nat.le_refl _) _).block b hb)]
    exact cx
  clear cx
  go_enter Try.func54, Try.ntmps54
  go_wp2_with (first
    | (go_at_call 76; refine (SRT.out _).mono ?_; rintro e w1 ⟨rfl, rfl⟩)
    | go_in)
  go_quiet ((first | (go_at_call 27; first | exact quiet_left (IP.out _) | exact quiet_same_left (IP.out _)) | (go_at_call 77; first | exact quiet_left (KD.out _) | exact quiet_same_left (KD.out _))))
  all_goals go_wp2_with fail
  refine (NM.out _).mono ?_
  rintro e w2 ⟨rfl, b2⟩
  have B2 := Lib.hid ((below_drewN ((Below.refl w.heap.size w).alloc (Nat.le_refl _) _) _).trans (b2.mono (by simp [World.drewN])))
  clear b2
  cases y
  all_goals (go_wp2_with fail; go_ret; exact ⟨ret_i (by rw [HR.out]; rfl), B2.out⟩)
set_option maxRecDepth 100000 in
set_option maxHeartbeats 16000000 in
theorem rnode_m (b off n c i : Nat) (k m d : Int) (s : ByteArray) (pat : Bool) (w : World) (k2 : Int) (hi : i < n) (hnm : n ≤ 1000000)
    (c0 : w.cell? ⟨b, off + i * 4, none⟩ = some (.int .i64 k)) (c1 : w.cell? ⟨b, off + i * 4 + 1, none⟩ = some (.string s)) (c2 : w.cell? ⟨b, off + i * 4 + 2, none⟩ = some (.int .i64 m)) (c3 : w.cell? ⟨b, off + i * 4 + 3, none⟩ = some (.int .i64 d))
    (SRT : Hid (∀ W : World, Calls Try.prog 76 #[.int .i64 k] W (Pure (.int .i64 1) W))) (IP : Hid (∀ W : World, Calls Try.prog 27 #[.int .i64 k] W (fun e w' => e = .returned (.bool pat) ∧ W = w'))) (KD : Hid (∀ W : World, Calls Try.prog 77 #[.int .i64 k, .int .i64 d] W (fun e w' => e = .returned (.bool true) ∧ W = w'))) (gk1 : (k == 1) = false) (gk23 : (k == 23) = false) (hm : m = 0) (gk8 : (k == 8) = true) (hb : b < w.heap.size) (hin2 : ((i : Int) + 1 < (n : Int))) (cx : w.cell? ⟨b, off + (i + 1) * 4, none⟩ = some (.int .i64 k2)) (g5 : (k2 != 5) = true) :
    Calls Try.prog 54 #[.slice (some ⟨b, off, none⟩) n c, .int .i64 (i : Int), .bool pat] w (RI 61 w) := by
  have hin : ((i : Int) < (n : Int)) := by omega
  subst hm
  have cx2 : (w.alloc (.cells #[.int .i64 k, .string s, .int .i64 0, .int .i64 d] 42)).cell? ⟨b, off + (i + 1) * 4, none⟩ = some (.int .i64 k2) := by
    rw [World.cell?_of_block (w := w) (((Below.refl w.heap.size w).alloc (Nat.le_refl _) _).block b hb)]
    exact cx
  clear cx
  go_enter Try.func54, Try.ntmps54
  go_wp2_with (first
    | (go_at_call 76; refine (SRT.out _).mono ?_; rintro e w1 ⟨rfl, rfl⟩)
    | go_in)
  go_quiet ((first | (go_at_call 27; first | exact quiet_left (IP.out _) | exact quiet_same_left (IP.out _)) | (go_at_call 77; first | exact quiet_left (KD.out _) | exact quiet_same_left (KD.out _))))
  all_goals go_wp2
  all_goals go_ret
  all_goals exact ⟨rfl, below_drewN ((Below.refl _ _).alloc (Nat.le_refl _) _) _⟩
set_option maxRecDepth 100000 in
set_option maxHeartbeats 16000000 in
theorem rnode_o (b off n c i : Nat) (k m d : Int) (s : ByteArray) (pat : Bool) (w : World) (R : Int) (y : Bool) (hi : i < n) (hnm : n ≤ 1000000)
    (c0 : w.cell? ⟨b, off + i * 4, none⟩ = some (.int .i64 k)) (c1 : w.cell? ⟨b, off + i * 4 + 1, none⟩ = some (.string s)) (c2 : w.cell? ⟨b, off + i * 4 + 2, none⟩ = some (.int .i64 m)) (c3 : w.cell? ⟨b, off + i * 4 + 3, none⟩ = some (.int .i64 d))
    (SRT : Hid (∀ W : World, Calls Try.prog 76 #[.int .i64 k] W (Pure (.int .i64 1) W))) (IP : Hid (∀ W : World, Calls Try.prog 27 #[.int .i64 k] W (fun e w' => e = .returned (.bool pat) ∧ W = w'))) (KD : Hid (∀ W : World, Calls Try.prog 77 #[.int .i64 k, .int .i64 d] W (fun e w' => e = .returned (.bool true) ∧ W = w'))) (NM : Hid (∀ W : World, Calls Try.prog 16 #[.string s] W (RB y W))) (HR : Hid (R = if y then 0 else 62)) (gk1 : (k == 1) = false) (gk23 : (k == 23) = false) (hm : m = 0) (gk8 : (k == 8) = false) :
    Calls Try.prog 54 #[.slice (some ⟨b, off, none⟩) n c, .int .i64 (i : Int), .bool pat] w (RI R w) := by
  have hin : ((i : Int) < (n : Int)) := by omega
  subst hm
  go_enter Try.func54, Try.ntmps54
  go_wp2_with (first
    | (go_at_call 76; refine (SRT.out _).mono ?_; rintro e w1 ⟨rfl, rfl⟩)
    | go_in)
  go_quiet ((first | (go_at_call 27; first | exact quiet_left (IP.out _) | exact quiet_same_left (IP.out _)) | (go_at_call 77; first | exact quiet_left (KD.out _) | exact quiet_same_left (KD.out _))))
  all_goals go_wp2_with fail
  refine (NM.out _).mono ?_
  rintro e w2 ⟨rfl, b2⟩
  have B2 := Lib.hid ((below_drewN ((Below.refl w.heap.size w).alloc (Nat.le_refl _) _) _).trans (b2.mono (by simp [World.drewN])))
  clear b2
  cases y
  all_goals (go_wp2_with fail; go_ret; exact ⟨ret_i (by rw [HR.out]; rfl), B2.out⟩)
set_option maxRecDepth 100000 in
set_option maxHeartbeats 16000000 in
theorem rnode_p (b off n c i : Nat) (k m d : Int) (s : ByteArray) (pat : Bool) (w : World) (R : Int) (y : Bool) (hi : i < n) (hnm : n ≤ 1000000)
    (c0 : w.cell? ⟨b, off + i * 4, none⟩ = some (.int .i64 k)) (c1 : w.cell? ⟨b, off + i * 4 + 1, none⟩ = some (.string s)) (c2 : w.cell? ⟨b, off + i * 4 + 2, none⟩ = some (.int .i64 m)) (c3 : w.cell? ⟨b, off + i * 4 + 3, none⟩ = some (.int .i64 d))
    (SRT : Hid (∀ W : World, Calls Try.prog 76 #[.int .i64 k] W (Pure (.int .i64 2) W))) (IP : Hid (∀ W : World, Calls Try.prog 27 #[.int .i64 k] W (fun e w' => e = .returned (.bool pat) ∧ W = w'))) (KD : Hid (∀ W : World, Calls Try.prog 77 #[.int .i64 k, .int .i64 d] W (fun e w' => e = .returned (.bool true) ∧ W = w'))) (NM : Hid (∀ W : World, Calls Try.prog 18 #[.string s] W (RB y W))) (HR : Hid (R = if y then 0 else 62)) (gk1 : (k == 1) = false) (gk23 : (k == 23) = false) (hm : m = 0) (gk8 : (k == 8) = false) :
    Calls Try.prog 54 #[.slice (some ⟨b, off, none⟩) n c, .int .i64 (i : Int), .bool pat] w (RI R w) := by
  have hin : ((i : Int) < (n : Int)) := by omega
  subst hm
  go_enter Try.func54, Try.ntmps54
  go_wp2_with (first
    | (go_at_call 76; refine (SRT.out _).mono ?_; rintro e w1 ⟨rfl, rfl⟩)
    | go_in)
  go_quiet ((first | (go_at_call 27; first | exact quiet_left (IP.out _) | exact quiet_same_left (IP.out _)) | (go_at_call 77; first | exact quiet_left (KD.out _) | exact quiet_same_left (KD.out _))))
  all_goals go_wp2_with fail
  refine (NM.out _).mono ?_
  rintro e w2 ⟨rfl, b2⟩
  have B2 := Lib.hid ((below_drewN ((Below.refl w.heap.size w).alloc (Nat.le_refl _) _) _).trans (b2.mono (by simp [World.drewN])))
  clear b2
  cases y
  all_goals (go_wp2_with fail; go_ret; exact ⟨ret_i (by rw [HR.out]; rfl), B2.out⟩)
end Go.Proofs.Ytlalnmefppbebaa
