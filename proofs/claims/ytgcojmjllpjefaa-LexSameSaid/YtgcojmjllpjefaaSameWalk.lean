/- The walk of LexSame. -/
import Derived.Test.YtgcojmjllpjefaaAwake
namespace Go.Proofs.Ytgcojmjllpjefaa
open Go.RowKit Go.Proofs.LexMath

theorem few_len {ts : List Tok} (h : fewB ts = true) : ts.length ≤ 60 := by
  unfold fewB at h
  simp at h
  omega
set_option maxHeartbeats 1000000 in
theorem same_walk (v1 v2 : Value) (xs ys : List Tok) (w : World) (h1 : ToksAt w v1 xs) (h2 : ToksAt w v2 ys) : Calls Try.prog 6 #[v1, v2] w (RB true w) := by
  obtain ⟨p, c, rfl⟩ := toks_form h1
  obtain ⟨q, d, rfl⟩ := toks_form h2
  have F1 := fun W (b : Below w.heap.size w W) => few_any _ xs W (h1.below b)
  have F2 := fun W (b : Below w.heap.size w W) => few_any _ ys W (h2.below b)
  cases hf : fewB xs with
  | false =>
    rw [hf] at F1
    have FF := Lib.hid F1
    clear F1 F2 hf
    go_enter Try.func6, Try.ntmps6
    go_wp2_with fail
    refine (awake_any _).mono ?_
    rintro e w1 ⟨rfl, b1⟩
    have B1 := Lib.hid b1
    clear b1
    go_wp2_with fail
    refine (FF.out _ B1.out).mono ?_
    rintro e w2 ⟨rfl, rfl⟩
    go_wp2_with fail
    refine (awake_any _).mono ?_
    rintro e w2 ⟨rfl, b2⟩
    go_wp2
    go_ret
    exact ⟨rfl, B1.out.trans (b2.mono B1.out.size)⟩
  | true =>
    rw [hf] at F1
    have FF := Lib.hid F1
    clear F1
    cases hg : fewB ys with
    | false =>
      rw [hg] at F2
      have FG := Lib.hid F2
      clear F2 hf hg
      go_enter Try.func6, Try.ntmps6
      go_wp2_with fail
      refine (awake_any _).mono ?_
      rintro e w1 ⟨rfl, b1⟩
      have B1 := Lib.hid b1
      clear b1
      go_wp2_with fail
      refine (FF.out _ B1.out).mono ?_
      rintro e w2 ⟨rfl, rfl⟩
      go_wp2_with fail
      refine (FG.out _ B1.out).mono ?_
      rintro e w2 ⟨rfl, rfl⟩
      go_wp2_with fail
      refine (awake_any _).mono ?_
      rintro e w2 ⟨rfl, b2⟩
      go_wp2
      go_ret
      exact ⟨rfl, B1.out.trans (b2.mono B1.out.size)⟩
    | true =>
      rw [hg] at F2
      have FG := Lib.hid F2
      have l1 := few_len hf
      have l2 := few_len hg
      have H1 := Lib.hid h1
      have H2 := Lib.hid h2
      have OX := Lib.hid (fun W (b : Below w.heap.size w W) => own_any _ xs W (h1.below b) (by omega))
      have OY := Lib.hid (fun W (b : Below w.heap.size w W) => own_any _ ys W (h2.below b) (by omega))
      have LS := Lib.hid (fun v1 v2 W h1 h2 => lsame_any v1 v2 xs ys W h1 h2 (by omega))
      have RS := Lib.hid (fun v1 v2 W h1 h2 => rsame_any v1 v2 xs ys W h1 h2 (by omega))
      clear F2 hf hg h1 h2
      go_enter Try.func6, Try.ntmps6
      go_wp2_with fail
      refine (awake_any _).mono ?_
      rintro e w1 ⟨rfl, b1⟩
      have B1 := Lib.hid b1
      clear b1
      go_wp2_with fail
      refine (FF.out _ B1.out).mono ?_
      rintro e w2 ⟨rfl, rfl⟩
      go_wp2_with fail
      refine (FG.out _ B1.out).mono ?_
      rintro e w2 ⟨rfl, rfl⟩
      go_wp2_with fail
      refine (OX.out _ B1.out).mono ?_
      rintro e w2 ⟨v3, rfl, t3, b2⟩
      obtain ⟨p3, c3, rfl⟩ := toks_form t3
      have B2 := Lib.hid (B1.out.trans (b2.mono B1.out.size))
      have T3 := Lib.hid t3
      clear b2 B1 t3
      go_wp2_with fail
      refine (OY.out _ B2.out).mono ?_
      rintro e w3 ⟨v4, rfl, t4, b3⟩
      obtain ⟨p4, c4, rfl⟩ := toks_form t4
      have B3 := Lib.hid (B2.out.trans (b3.mono B2.out.size))
      have T4 := Lib.hid t4
      have T3 := Lib.hid (T3.out.below b3)
      clear b3 B2 t4
      go_wp2_with fail
      refine (LS.out _ _ _ T3.out T4.out).mono ?_
      rintro e w4 ⟨rfl, b4⟩
      have B4 := Lib.hid (B3.out.trans (b4.mono B3.out.size))
      clear b4 B3
      go_wp2_with fail
      refine (RS.out _ _ _ (H1.out.below B4.out) (H2.out.below B4.out)).mono ?_
      rintro e w5 ⟨rfl, b5⟩
      go_wp2
      go_ret
      exact ⟨rfl, B4.out.trans (b5.mono B4.out.size)⟩
end Go.Proofs.Ytgcojmjllpjefaa
