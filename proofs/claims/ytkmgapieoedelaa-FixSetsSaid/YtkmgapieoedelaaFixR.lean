/- The contracts of Right: the program's and the document's. -/
import Derived.Test.YtkmgapieoedelaaFixF
import Derived.Test.YtkmgapieoedelaaRefRight
namespace Go.Proofs.Ytkmgapieoedelaa
open Go.Shelf Go.RowKit Go.Lib Go.Proofs.FixMath Go.Proofs.LexMath

/-- Whether a text is an operator. -/
def opB (s : ByteArray) : Bool := isw opr opr s.data.toList && !key s.data.toList
/-- Whether a fixity may be. -/
def rightF (f : Fx) : Bool := opB f.op && (decide (0 ≤ f.level) && decide (f.level ≤ 9)) && (decide (-1 ≤ f.side) && decide (f.side ≤ 1))
theorem opB_any (s : ByteArray) (w : World) (hs : s.size ≤ 9223372036854775807) : Calls Try.prog 31 #[.agg #[.int .i64 5, .string s, .int .i64 0, .int .i64 0]] w (RB (opB s) w) :=
  right_5 s 0 w hs (Int.le_refl _) _ _ (Lib.hid rfl) (Lib.hid rfl)
theorem ropB_any (s : ByteArray) (w : World) (hs : s.size ≤ 100000000) : Calls Try.prog 32 #[.agg #[.int .i64 5, .string s, .int .i64 0, .int .i64 0]] w (RB (opB s) w) := by
  unfold opB
  by_cases hz : 0 < s.size
  · rw [isw_5 s hz]
    exact rright_5 s 0 w hs (Int.le_refl _) hz _ _ (Lib.hid rfl) (Lib.hid rfl)
  · rw [nil_of_size hz]
    exact rzero_5 s 0 w (Int.le_refl _) (nil_list hz)
theorem fine_of {f : Fx} (h : rightF f = true) : fine f := by
  simp only [rightF, Bool.and_eq_true, decide_eq_true_eq] at h
  exact ⟨h.1.2.1, h.1.2.2, by omega⟩
set_option maxHeartbeats 1000000 in
theorem fright_wide (f : Fx) (w : World) (hs : f.op.size ≤ 9223372036854775807) : Calls Try.prog 17 #[fxV f] w (RB (rightF f) w) := by
  have C := Lib.hid (fun W => opB_any f.op W hs)
  unfold rightF fxV
  obtain ⟨s, l, d⟩ := f
  simp only at C ⊢
  generalize opB s = x at *
  clear hs
  by_cases h1 : 0 ≤ l
  · by_cases h2 : l ≤ 9
    · by_cases h3 : -1 ≤ d
      · by_cases h4 : d ≤ 1
        · have e : (x && (decide (0 ≤ l) && decide (l ≤ 9)) && (decide (-1 ≤ d) && decide (d ≤ 1))) = x := by simp [h1, h2, h3, h4]
          rw [e]
          go_enter Try.func17, Try.ntmps17
          go_wp2_with fail
          refine (C.out _).mono ?_
          rintro e w1 ⟨rfl, b1⟩
          have B1 := Lib.hid b1
          clear b1
          go_wp2
          go_ret
          exact ⟨rfl, ((Below.refl _ _).alloc (Nat.le_refl _) _).trans (B1.out.mono (by simp))⟩
        · have e : (x && (decide (0 ≤ l) && decide (l ≤ 9)) && (decide (-1 ≤ d) && decide (d ≤ 1))) = false := by simp [h4]
          rw [e]
          go_enter Try.func17, Try.ntmps17
          go_wp2
          go_ret
          exact ⟨rfl, (Below.refl _ _).alloc (Nat.le_refl _) _⟩
      · have e : (x && (decide (0 ≤ l) && decide (l ≤ 9)) && (decide (-1 ≤ d) && decide (d ≤ 1))) = false := by simp [h3]
        rw [e]
        go_enter Try.func17, Try.ntmps17
        go_wp2
        go_ret
        exact ⟨rfl, (Below.refl _ _).alloc (Nat.le_refl _) _⟩
    · have e : (x && (decide (0 ≤ l) && decide (l ≤ 9)) && (decide (-1 ≤ d) && decide (d ≤ 1))) = false := by simp [h2]
      rw [e]
      go_enter Try.func17, Try.ntmps17
      go_wp2
      go_ret
      exact ⟨rfl, (Below.refl _ _).alloc (Nat.le_refl _) _⟩
  · have e : (x && (decide (0 ≤ l) && decide (l ≤ 9)) && (decide (-1 ≤ d) && decide (d ≤ 1))) = false := by simp [h1]
    rw [e]
    go_enter Try.func17, Try.ntmps17
    go_wp2
    go_ret
    exact ⟨rfl, (Below.refl _ _).alloc (Nat.le_refl _) _⟩
set_option maxHeartbeats 1000000 in
theorem fright_any (f : Fx) (w : World) (hs : f.op.size ≤ 100000000) : Calls Try.prog 17 #[fxV f] w (RB (rightF f) w) := fright_wide f w (by omega)
theorem rfright_any (f : Fx) (w : World) (hs : f.op.size ≤ 100000000) : Calls Try.prog 18 #[fxV f] w (RB (rightF f) w) := by
  have C := Lib.hid (fun W => ropB_any f.op W hs)
  unfold rightF fxV
  obtain ⟨s, l, d⟩ := f
  simp only at C ⊢
  generalize opB s = x at *
  clear hs
  obtain ⟨r, hr⟩ : ∃ r, r = (x && (decide (0 ≤ l) && decide (l ≤ 9)) && (decide (-1 ≤ d) && decide (d ≤ 1))) := ⟨_, rfl⟩
  rw [← hr]
  have HR := Lib.hid hr
  clear hr
  cases x
  · go_enter Try.func18, Try.ntmps18
    go_wp2_with fail
    refine (C.out _).mono ?_
    rintro e w1 ⟨rfl, b1⟩
    have B1 := Lib.hid b1
    obtain ⟨c0, c1, c2⟩ := ((FixBlk.new w ⟨s, l, d⟩).below b1 (by simp)).cells
    simp only at c0 c1 c2
    clear b1
    go_wp2
    go_ret
    rw [HR.out]
    exact ⟨by simp, ((Below.refl _ _).alloc (Nat.le_refl _) _).trans (B1.out.mono (by simp))⟩
  · by_cases h1 : 0 ≤ l <;> by_cases h2 : l ≤ 9 <;> by_cases h3 : -1 ≤ d <;> by_cases h4 : d ≤ 1
    all_goals (try (exfalso; omega))
    all_goals
      go_enter Try.func18, Try.ntmps18
      go_wp2_with fail
      refine (C.out _).mono ?_
      rintro e w1 ⟨rfl, b1⟩
      have B1 := Lib.hid b1
      obtain ⟨c0, c1, c2⟩ := ((FixBlk.new w ⟨s, l, d⟩).below b1 (by simp)).cells
      simp only at c0 c1 c2
      clear b1
      go_wp2
      go_ret
      rw [HR.out]
      exact ⟨by simp [h1, h2, h3, h4], ((Below.refl _ _).alloc (Nat.le_refl _) _).trans (B1.out.mono (by simp))⟩
end Go.Proofs.Ytkmgapieoedelaa
