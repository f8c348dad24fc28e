/- The walk of LexReads. -/
import Derived.Test.YtgcojmjllpjefaaAwake
import Derived.Test.YtgcojmjllpjefaaRefLex
namespace Go.Proofs.Ytgcojmjllpjefaa
open Go.RowKit Go.Proofs.LexMath

set_option maxHeartbeats 1000000 in
theorem reads_walk (s : ByteArray) (w : World) : Calls Try.prog 3 #[.string s] w (RB true w) := by
  by_cases hs : (s.size : Int) ≤ 600
  · have d : decide ((600 : Int) < (s.size : Int)) = false := by simp; omega
    have L := fun W => lex_any s W (by omega)
    have R := fun W => rlex_any s W (by omega)
    cases hl : lex s.data.toList with
    | ok ts =>
      have hn := lex_ok_len hl
      rw [hl] at L R
      have LL := Lib.hid L
      have RR := Lib.hid R
      clear L R hl hs
      go_enter Try.func3, Try.ntmps3
      go_wp2_with fail
      refine (awake_any _).mono ?_
      rintro e w1 ⟨rfl, b1⟩
      have B1 := Lib.hid b1
      clear b1
      go_wp2_with fail
      refine (LL.out _).mono ?_
      rintro e w2 ⟨v2, rfl, t2, b2⟩
      obtain ⟨p2, c2, rfl⟩ := toks_form t2
      have B2 := Lib.hid (B1.out.trans (b2.mono B1.out.size))
      clear b2
      go_wp2_with fail
      refine (RR.out _).mono ?_
      rintro e w3 ⟨v3, rfl, t3, b3⟩
      obtain ⟨p3, c3, rfl⟩ := toks_form t3
      have t2' := t2.below b3
      have B3 := Lib.hid (B2.out.trans (b3.mono B2.out.size))
      have C := Lib.hid (exact_any _ _ ts w3 t2' t3 (by omega))
      clear b3 t2 t3 t2' B1 B2 hn
      go_wp2_with fail
      refine C.out.mono ?_
      rintro e w4 ⟨rfl, b4⟩
      go_wp2
      go_ret
      exact ⟨rfl, B3.out.trans (b4.mono B3.out.size)⟩
    | err c q =>
      rw [hl] at L R
      have LL := Lib.hid L
      have RR := Lib.hid R
      clear L R hl hs
      go_enter Try.func3, Try.ntmps3
      go_wp2_with fail
      refine (awake_any _).mono ?_
      rintro e w1 ⟨rfl, b1⟩
      have B1 := Lib.hid b1
      clear b1
      go_wp2_with fail
      refine (LL.out _).mono ?_
      rintro e w2 ⟨rfl, b2⟩
      have B2 := Lib.hid (B1.out.trans (b2.mono B1.out.size))
      clear b2
      go_wp2_with fail
      refine (RR.out _).mono ?_
      rintro e w3 ⟨rfl, b3⟩
      have B3 := Lib.hid (B2.out.trans (b3.mono B2.out.size))
      clear b3 B1 B2
      go_wp2_with fail
      refine (exact_zero _ _ _ _ _).mono ?_
      rintro e w4 ⟨rfl, b4⟩
      go_wp2
      go_ret
      exact ⟨rfl, B3.out.trans (b4.mono B3.out.size)⟩
  · have d : decide ((600 : Int) < (s.size : Int)) = true := by simp; omega
    clear hs
    go_enter Try.func3, Try.ntmps3
    go_wp2_with fail
    refine (awake_any _).mono ?_
    rintro e w1 ⟨rfl, b1⟩
    have B1 := Lib.hid b1
    clear b1
    go_wp2_with fail
    refine (awake_any _).mono ?_
    rintro e w2 ⟨rfl, b2⟩
    go_wp2
    go_ret
    exact ⟨rfl, B1.out.trans (b2.mono B1.out.size)⟩
end Go.Proofs.Ytgcojmjllpjefaa
