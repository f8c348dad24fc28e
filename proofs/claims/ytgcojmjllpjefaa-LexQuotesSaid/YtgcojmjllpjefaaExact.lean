/- The contract of the laws' own exact, where both lists are the same. -/
import Derived.Test.YtgcojmjllpjefaaHelps
namespace Go.Proofs.Ytgcojmjllpjefaa
open Go.RowKit Go.Proofs.LexMath

theorem same_self (ts : List Tok) : sameB ts ts = true := by simp [sameB]
theorem exact_zero (p q : Option Addr) (c d : Nat) (w : World) : Calls Try.prog 13 #[.slice p 0 c, .slice q 0 d] w (RB true w) := by
  go_enter Try.func13, Try.ntmps13
  go_wp2
  refine wp_loop_rounds 1 ?_
  rw [rounds_succ]
  go_wp2_with ((go_at_call 18; refine (rsame_zero _ _ _ _ _).mono ?_; rintro e w1 ⟨rfl, b1⟩))
  go_ret
  exact ⟨rfl, b1⟩
set_option maxHeartbeats 1000000 in
theorem exact_some (b off b2 off2 c d n : Nat) (ts : List Tok) (w : World) (hx : Hid (ts.length = n)) (h1 : Hid (CellsIn w b off (tokCells ts))) (h2 : Hid (CellsIn w b2 off2 (tokCells ts))) (hb : b < w.heap.size) (hb2 : b2 < w.heap.size) (hn : n ≤ 1000000) :
    Calls Try.prog 13 #[.slice (some ⟨b, off, none⟩) n c, .slice (some ⟨b2, off2, none⟩) n d] w (RB true w) := by
  go_enter Try.func13, Try.ntmps13
  go_wp2
  go_loopw [5] (fun i wr => ∃ k : Nat, k ≤ n ∧ i = .int .i64 k ∧ Below w.heap.size w wr) (fun i _ => n - (intOf i).toNat)
  case atStart => exact ⟨0, Nat.zero_le _, rfl, Below.refl _ _⟩
  case round =>
    obtain ⟨wo, hwo⟩ : ∃ wo : World, wo = wr := ⟨_, rfl⟩
    subst hwo
    obtain ⟨k, hk, rfl, hbel⟩ := hrel
    by_cases hlt : k < n
    · obtain ⟨a1, a2, a3, a4⟩ := h1.out.tok k (by rw [hx.out]; exact hlt)
      obtain ⟨e1, e2, e3, e4⟩ := h2.out.tok k (by rw [hx.out]; exact hlt)
      obtain ⟨x, hxk⟩ : ∃ x, x = ts.getD k default := ⟨_, rfl⟩
      rw [← hxk] at a4 e4
      clear a1 a2 a3 e1 e2 e3 hxk
      obtain ⟨x1, x2, x3, x4⟩ := x
      simp only at a4 e4
      have a4 := cell_keep hb hbel _ a4
      have e4 := cell_keep hb2 hbel _ e4
      have HB := Lib.hid hbel
      clear hbel
      have k0 : 0 ≤ (k : Int) := by omega
      have k1 : (k : Int) < (n : Int) := by omega
      go_wp2
      go_quiet (fail)
      all_goals
        go_wp2
        go_roundw
        case rel => exact ⟨k + 1, by omega, by go_num, below_drewN HB.out _⟩
        case measure => simp [intOf]; omega
    · have C := fun W (bw : Below w.heap.size w W) => rsame_some b off b2 off2 c d n ts ts W hx hx (Lib.hid (h1.out.kept (bw.block b hb))) (Lib.hid (h2.out.kept (bw.block b2 hb2))) (Nat.lt_of_lt_of_le hb bw.size) (Nat.lt_of_lt_of_le hb2 bw.size) hn
      rw [same_self] at C
      have CC := Lib.hid C
      have HB := Lib.hid hbel
      clear C hbel
      go_wp2_with fail
      refine (CC.out _ HB.out).mono ?_
      rintro e w1 ⟨rfl, b1⟩
      go_wp2
      go_ret
      exact ⟨rfl, HB.out.trans (b1.mono HB.out.size)⟩
theorem exact_any (v1 v2 : Value) (ts : List Tok) (w : World) (h1 : ToksAt w v1 ts) (h2 : ToksAt w v2 ts) (hn : ts.length ≤ 1000000) : Calls Try.prog 13 #[v1, v2] w (RB true w) := by
  obtain ⟨_, p, c, rfl, _, _, hp⟩ := h1
  obtain ⟨_, q, d, rfl, _, _, hq⟩ := h2
  rcases ts with _ | ⟨x, ts⟩
  · exact exact_zero p q c d w
  · obtain ⟨b, off, rfl, hb, hc⟩ := hp (by simp)
    obtain ⟨b2, off2, rfl, hb2, hc2⟩ := hq (by simp)
    exact exact_some b off b2 off2 c d _ (x :: ts) w (Lib.hid rfl) hc hc2 hb hb2 hn
end Go.Proofs.Ytgcojmjllpjefaa
