/- tree.Up. -/
import Derived.Test.YtlalnmefppbebaaEnd
namespace Go.Proofs.Ytlalnmefppbebaa
open Go.RowKit Go.Proofs.TreeMath
theorem up_not (v : Value) (ns : List Nd) (i : Int) (w : World) (h : NodesAt w v ns) (hn : ns.length ≤ 1000000) (hh : i ≤ 0 ∨ (ns.length : Int) ≤ i ∨ wholeB (kk ns) = false) :
    Calls Try.prog 28 #[v, .int .i64 i] w fun e w' => e = .returned (.int .i64 (-1)) ∧ w = w' := by
  obtain ⟨p, c, hv⟩ : ∃ p c, v = .slice p ns.length c := by obtain ⟨_, p, c, hv, _⟩ := h; exact ⟨p, c, hv⟩
  subst hv
  by_cases h0 : i ≤ 0
  · go_enter Try.func28, Try.ntmps28
    go_wp2
    go_ret
    exact ⟨rfl, rfl⟩
  · by_cases h1 : (ns.length : Int) ≤ i
    · clear hh
      go_enter Try.func28, Try.ntmps28
      go_wp2
      go_ret
      exact ⟨rfl, rfl⟩
    · have hW : wholeB (kk ns) = false := by rcases hh with h | h | h; exact absurd h h0; exact absurd h h1; exact h
      clear hh
      go_enter Try.func28, Try.ntmps28
      go_wp2_with fail
      refine (whole_any _ ns _ h hn).mono ?_
      rintro e w' ⟨rfl, rfl⟩
      rw [hW]
      go_wp2_with fail
      go_ret
      exact ⟨rfl, rfl⟩
def UpRet (ks : List Int) (i : Nat) (W : World) (e : Ending) (w' : World) : Prop := ∃ p : Nat, e = .returned (.int .i64 p) ∧ IsPar ks p i ∧ W = w'
set_option maxHeartbeats 1000000 in
theorem up_in (b off n c i : Nat) (ns : List Nd) (w : World) (h : NodesAt w (.slice (some ⟨b, off, none⟩) n c) ns) (hl : Hid (ns.length = n)) (hn : n ≤ 1000000) (hc : Hid (CellsIn w b off (nodeCells ns))) (hi : 0 < i) (hin : i < n) (hW : Hid (wholeB (kk ns) = true)) :
    Calls Try.prog 28 #[.slice (some ⟨b, off, none⟩) n c, .int .i64 i] w (UpRet (kk ns) i w) := by
  have t0 : decide ((i : Int) ≤ 0) = false := decide_eq_false (by omega)
  have t1 : decide ((n : Int) ≤ i) = false := decide_eq_false (by omega)
  have t2 : decide (n ≤ i) = false := decide_eq_false (by omega)
  go_enter Try.func28, Try.ntmps28
  go_wp2_with fail
  refine (whole_any _ ns _ h (by rw [hl.out]; exact hn)).mono ?_
  rintro e w' ⟨rfl, rfl⟩
  rw [hW.out]
  go_wp2_with fail
  clear t0 t1 t2
  go_loop [5, 6] (fun p s => ∃ q a : Nat, q < i ∧ p = .int .i64 q ∧ s = .int .i64 a ∧ a ≤ n ∧ fin (kk ns) (q + 1) a = (i : Int)) (fun p _ => (intOf p).toNat)
  case atStart => exact ⟨i - 1, 0, by omega, by congr 1; omega, rfl, by omega, by rw [fin_zero]; omega⟩
  case round =>
    obtain ⟨q, a, hq, rfl, rfl, ha, hf⟩ := hrel
    have HF := Lib.hid hf
    clear hf
    have hc1 := hc.out.kids q (by rw [hl.out]; omega)
    have hk0 := whole_nonneg (kk ns) hW.out q (by rw [length_kk, hl.out]; omega)
    obtain ⟨k, hk⟩ : ∃ k, k = (kk ns).getD q 0 := ⟨_, rfl⟩
    rw [← hk] at hc1 hk0
    have HK := Lib.hid hk
    clear hk
    by_cases hle : k ≤ (a : Int)
    · obtain ⟨hq0, hf2⟩ := up_more (kk ns) hW.out q a i hq (by rw [length_kk, hl.out]; omega) HF.out (by rw [← HK.out]; exact hle)
      rw [← HK.out] at hf2
      have hle2 : a - k.toNat + 1 ≤ n := by
        have h9 := fin_le (kk ns) q _ (show 0 ≤ fin (kk ns) q (a - k.toNat + 1) by omega)
        rw [hf2] at h9
        omega
      have HF2 := Lib.hid hf2
      clear hf2
      go_wp2
      go_round
      case rel => exact ⟨q - 1, a - k.toNat + 1, by omega, by congr 1; omega, by congr 1; omega, by omega, by rw [show q - 1 + 1 = q by omega]; exact HF2.out⟩
      case measure => simp [intOf]; omega
    · go_wp2
      go_ret
      exact ⟨q, rfl, ⟨hq, a, by rw [← HK.out]; omega, HF.out⟩, rfl⟩
end Go.Proofs.Ytlalnmefppbebaa
