/- The walk of the law WordRange: six answers laid into a slice that the call makes, each looked at: all are numbers of the language. -/
import Derived.Test.YtblklhjmbhdhnaaAwake
import Derived.Test.YtblklhjmbhdhnaaBackNum
import Derived.Deep.QuietTactic
import Derived.BigQuiet
import Derived.WalkSmall
namespace Go.Proofs.Ytblklhjmbhdhnaa
open Go.RowKit

def InR (x : Int) : Prop := -4611686018427387904 ≤ x ∧ x ≤ 4611686018427387903
theorem inr_wr (n : Int) : InR (wr n) := wr_range n
theorem inr_tmod (a b : Int) (h : ¬ wr b = 0) : InR (Int.tmod (wr a) (wr b)) := by
  have h1 := tmod_lt (wr a) (wr b) h
  have h2 := sz_range (wr b) (wr_range b)
  unfold InR; omega
theorem div_some (a b : Int) : ∃ q er, InR q ∧ ∀ w : World, Calls Try.prog 19 #[.int .i64 a, .int .i64 b] w fun e w' => e = .returned (.tuple #[.int .i64 q, .int .i64 er]) ∧ w = w' := by
  by_cases h : wr b = 0
  · exact ⟨0, 10, by unfold InR; omega, fun w => div_zero a b w (by simpa using h)⟩
  · exact ⟨_, 0, inr_wr _, fun w => div_ok a b w (by simpa using h)⟩
theorem mod_some (a b : Int) : ∃ q er, InR q ∧ ∀ w : World, Calls Try.prog 20 #[.int .i64 a, .int .i64 b] w fun e w' => e = .returned (.tuple #[.int .i64 q, .int .i64 er]) ∧ w = w' := by
  by_cases h : wr b = 0
  · exact ⟨0, 10, by unfold InR; omega, fun w => mod_zero a b w (by simpa using h)⟩
  · exact ⟨_, 0, inr_tmod a b h, fun w => mod_ok a b w (by simpa using h)⟩
theorem wrap_same (x : Int) (hx : InR x) (w : World) : Calls Try.prog 11 #[.int .i64 x] w fun e w' => e = .returned (.int .i64 x) ∧ w' = w :=
  (wrap_any x w).mono fun _ _ ⟨he, hw⟩ => ⟨by rw [he, wr_of x hx], hw.symm⟩
def Six (w : World) (g : Nat) : Prop := ∀ j, j < 6 → ∃ x, InR x ∧ w.cell? ⟨g, j, none⟩ = some (.int .i64 x)

theorem six_new (X : World) (a b c d e f : Int) (Z : Array Value) (ha : InR a) (hb : InR b) (hc : InR c) (hd : InR d) (he : InR e) (hf : InR f) (g : Nat) (hg : g = X.heap.size) :
    Six ((X.alloc (.cells (#[.int .i64 a, .int .i64 b, .int .i64 c, .int .i64 d] ++ (#[.int .i64 e, .int .i64 f] ++ Z)) 2)).drew) g := by
  subst hg
  have h : ((X.alloc (.cells (#[.int .i64 a, .int .i64 b, .int .i64 c, .int .i64 d] ++ (#[.int .i64 e, .int .i64 f] ++ Z)) 2)).drew).heap[X.heap.size]? = some (.cells (#[.int .i64 a, .int .i64 b, .int .i64 c, .int .i64 d] ++ (#[.int .i64 e, .int .i64 f] ++ Z)) 2) := heap_alloc_new X _
  intro j hj
  have hj' : j = 0 ∨ j = 1 ∨ j = 2 ∨ j = 3 ∨ j = 4 ∨ j = 5 := by omega
  unfold World.cell?
  simp only []
  rw [h]
  rcases hj' with rfl | rfl | rfl | rfl | rfl | rfl
  · exact ⟨a, ha, by simp [Array.getElem?_append]⟩
  · exact ⟨b, hb, by simp [Array.getElem?_append]⟩
  · exact ⟨c, hc, by simp [Array.getElem?_append]⟩
  · exact ⟨d, hd, by simp [Array.getElem?_append]⟩
  · exact ⟨e, he, by simp [Array.getElem?_append]⟩
  · exact ⟨f, hf, by simp [Array.getElem?_append]⟩
theorem six_drewN {w : World} {g : Nat} (h : Six w g) (n : Nat) : Six (w.drewN n) g := h

set_option maxRecDepth 100000 in
set_option maxHeartbeats 1000000 in
theorem range_any (a b : Int) (w : World) :
    Calls Try.prog 9 #[.int .i64 a, .int .i64 b] w fun e w' => e = .returned (.bool true) ∧ Below w.heap.size w w' := by
  obtain ⟨q, er, hq, cq⟩ := div_some a b
  obtain ⟨m, er', hm, cm⟩ := mod_some a b
  have CQ : Hid (∀ w : World, Calls Try.prog 19 #[.int .i64 a, .int .i64 b] w fun e w' => e = .returned (.tuple #[.int .i64 q, .int .i64 er]) ∧ w = w') := cq
  have CM : Hid (∀ w : World, Calls Try.prog 20 #[.int .i64 a, .int .i64 b] w fun e w' => e = .returned (.tuple #[.int .i64 m, .int .i64 er']) ∧ w = w') := cm
  have HQ : Hid (InR q) := hq
  have HM : Hid (InR m) := hm
  clear cq cm hq hm
  go_enter Try.func9, Try.ntmps9
  go_wp2_with (first
    | (go_at_call 11; refine (wrap_any _ _).mono ?_; rintro e w' ⟨rfl, rfl⟩)
    | (go_at_call 13; refine (add_any _ _ _).mono ?_; rintro e w' ⟨rfl, rfl⟩)
    | (go_at_call 15; refine (sub_any _ _ _).mono ?_; rintro e w' ⟨rfl, rfl⟩)
    | (go_at_call 17; refine (mul_any _ _ _).mono ?_; rintro e w' ⟨rfl, rfl⟩)
    | (go_at_call 19; refine (CQ.out _).mono ?_; rintro e w' ⟨rfl, rfl⟩)
    | (go_at_call 20; refine (CM.out _).mono ?_; rintro e w' ⟨rfl, rfl⟩))
  go_loopw [10] (fun i wr => ∃ k : Nat, k ≤ 6 ∧ i = .int .i64 k ∧ Six wr (w.heap.size + 1 + 1) ∧ Below w.heap.size w wr) (fun i _ => 6 - (intOf i).toNat)
  case atStart =>
    refine ⟨0, by omega, rfl, six_new _ _ _ _ _ _ _ _ (inr_wr _) (inr_wr _) (inr_wr _) (inr_wr _) HQ.out HM.out _ (by simp), ?_⟩
    exact ((((Below.refl _ _).alloc (Nat.le_refl _) _).alloc (by simp) _).alloc (by simp; omega) _).drew
  case round =>
    obtain ⟨k, hk, rfl, h6, hbel⟩ := hrel
    by_cases hlt : k < 6
    · obtain ⟨x, hx, hc⟩ := h6 k hlt
      have hx' : -4611686018427387904 ≤ x ∧ x ≤ 4611686018427387903 := hx
      have d1 : decide (4611686018427387903 < x) = false := by simp; omega
      have d2 : decide (x < -4611686018427387904) = false := by simp; omega
      have H6 : Hid (Six wr (w.heap.size + 1 + 1)) := h6
      have HB : Hid (Below w.heap.size w wr) := hbel
      clear h6 hbel hx'
      go_wp2_with fail
      go_quiet ((go_at_call 11; exact Calls.quiet_of_same (wrap_same x hx _)))
      go_wp2_with fail
      go_roundw
      case rel => exact ⟨k + 1, by omega, by go_num, six_drewN H6.out nq, below_drewN HB.out nq⟩
      case measure => simp [intOf]; omega
    · obtain rfl : k = 6 := by omega
      have HB : Hid (Below w.heap.size w wr) := hbel
      clear h6 hbel
      go_wp2_with fail
      refine (awake_any _).mono ?_
      rintro e w1 ⟨rfl, b1⟩
      go_wp2_with fail
      go_ret
      exact ⟨rfl, HB.out.trans (b1.mono HB.out.size)⟩
end Go.Proofs.Ytblklhjmbhdhnaa
