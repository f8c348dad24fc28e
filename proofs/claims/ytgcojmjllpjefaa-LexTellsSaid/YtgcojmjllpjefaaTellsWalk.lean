/- The walk of LexTells. -/
import Derived.Test.YtgcojmjllpjefaaAwake
import Derived.Test.YtgcojmjllpjefaaRefShow
namespace Go.Proofs.Ytgcojmjllpjefaa
open Go.RowKit Go.Proofs.LexMath

theorem tok_s {W w' : World} {g : Nat} {t : Tok} (hg : g < W.heap.size) (h : TokBlk W g t) (b : Below W.heap.size W w') : Below W.heap.size W w' ∧ w'.cell? ⟨g, 0, none⟩ = some (.int .i64 t.kind) ∧ w'.cell? ⟨g, 1, none⟩ = some (.string t.text) ∧ w'.cell? ⟨g, 2, none⟩ = some (.int .i64 t.num) ∧ w'.cell? ⟨g, 3, none⟩ = some (.int .i64 t.at_) :=
  have ⟨q1, q2, q3, q4⟩ := (h.below b hg).facts.1
  ⟨b, q1, q2, q3, q4⟩
theorem tells_far (t : Tok) (s : ByteArray) (w : World) (h : 300 < t.text.size ∨ 300 < s.size) : Calls Try.prog 5 #[tokV t, .string s] w (RB true w) := by
  by_cases h1 : 300 < t.text.size
  · have d1 : decide ((300 : Int) < (t.text.size : Int)) = true := by simp; omega
    obtain ⟨k, x, n, a⟩ := t
    simp only at d1
    have T := Lib.hid (fun w' b => tokW_facts (t := ⟨k, x, n, a⟩) (w := w) (w' := w') b)
    have TB := Lib.hid (fun w' b => tokW_below (t := ⟨k, x, n, a⟩) (w := w) (w' := w') b)
    unfold tokV
    clear h h1
    go_enter Try.func5, Try.ntmps5
    go_wp2_with fail
    refine (awake_any _).mono ?_
    rintro e w1 ⟨rfl, b1⟩
    have ⟨q1, q2, q3, q4⟩ := T.out _ b1
    try simp only at q1 q2 q3 q4
    have B1 := Lib.hid b1
    clear b1
    go_wp2_with fail
    refine (awake_any _).mono ?_
    rintro e w2 ⟨rfl, b2⟩
    go_wp2
    go_ret
    exact ⟨rfl, TB.out _ (B1.out.trans (b2.mono B1.out.size))⟩
  · have d1 : decide ((300 : Int) < (t.text.size : Int)) = false := by simp; omega
    have d2 : decide ((300 : Int) < (s.size : Int)) = true := by simp; omega
    obtain ⟨k, x, n, a⟩ := t
    simp only at d1
    have T := Lib.hid (fun w' b => tokW_facts (t := ⟨k, x, n, a⟩) (w := w) (w' := w') b)
    have TB := Lib.hid (fun w' b => tokW_below (t := ⟨k, x, n, a⟩) (w := w) (w' := w') b)
    unfold tokV
    clear h h1
    go_enter Try.func5, Try.ntmps5
    go_wp2_with fail
    refine (awake_any _).mono ?_
    rintro e w1 ⟨rfl, b1⟩
    have ⟨q1, q2, q3, q4⟩ := T.out _ b1
    try simp only at q1 q2 q3 q4
    have B1 := Lib.hid b1
    clear b1
    go_wp2_with fail
    refine (awake_any _).mono ?_
    rintro e w2 ⟨rfl, b2⟩
    go_wp2
    go_ret
    exact ⟨rfl, TB.out _ (B1.out.trans (b2.mono B1.out.size))⟩
set_option maxRecDepth 100000 in
set_option maxHeartbeats 0 in
theorem tells_near (t : Tok) (s : ByteArray) (w : World) (h1 : t.text.size ≤ 300) (h2 : s.size ≤ 300) : Calls Try.prog 5 #[tokV t, .string s] w (RB true w) := by
  have d1 : decide ((300 : Int) < (t.text.size : Int)) = false := by simp; omega
  have d2 : decide ((300 : Int) < (s.size : Int)) = false := by simp; omega
  have R1 := Lib.hid (fun W => right_any t W (by omega))
  have R2 := Lib.hid (fun W => rright_any t W (by omega))
  have O1 := Lib.hid (fun W => word_any t W (by omega))
  have O2 := Lib.hid (fun W => rword_any t W (by omega))
  have K1 := Lib.hid (fun W => key_any s W)
  have K2 := Lib.hid (fun W => rkey_any s W)
  have Q1 := Lib.hid (fun W => quote_any s W (by omega))
  have Q2 := Lib.hid (fun W => rquote_any s W (by omega))
  have T := Lib.hid (fun w' b => tokW_facts (t := t) (w := w) (w' := w') b)
  have TB := Lib.hid (fun w' b => tokW_below (t := t) (w := w) (w' := w') b)
  generalize rightB t = r at *
  generalize bs (wordR t) = x1 at *
  generalize key s.data.toList = x2 at *
  generalize bs (quote s.data.toList) = x3 at *
  obtain ⟨k, x, n, a⟩ := t
  simp only at d1
  unfold tokV at *
  clear h1 h2
  go_enter Try.func5, Try.ntmps5
  go_wp2_with fail
  refine (awake_any _).mono ?_
  rintro e w1 ⟨rfl, b1⟩
  have S := Lib.hid (fun w' (b : Below w1.heap.size w1 w') => And.intro b (T.out w' (b1.trans (b.mono b1.size))))
  have ⟨q1, q2, q3, q4⟩ := T.out _ b1
  try simp only at q1 q2 q3 q4
  have B1 := Lib.hid b1
  clear b1
  go_wp2_with fail
  clear q1 q2 q3 q4
  cases r
  all_goals
    go_region_held3 (fun w' => Below w1.heap.size w1 w' ∧ w'.cell? ⟨w.heap.size, 0, none⟩ = some (.int .i64 k) ∧ w'.cell? ⟨w.heap.size, 1, none⟩ = some (.string x) ∧ w'.cell? ⟨w.heap.size, 2, none⟩ = some (.int .i64 n) ∧ w'.cell? ⟨w.heap.size, 3, none⟩ = some (.int .i64 a)) (first | exact S.out _ (aw_drew _) | exact S.out _ (by assumption)) ((first
      | (go_at_call 20; (with_reducible refine (R1.out _).mono ?_); rintro e wz ⟨rfl, bz⟩; have bz' := aw_next (W := w1) (by first | exact And.left (by assumption) | assumption | exact aw_drew _) bz)
      | (go_at_call 21; (with_reducible refine (R2.out _).mono ?_); rintro e wz ⟨rfl, bz⟩; have bz' := aw_next (W := w1) (by first | exact And.left (by assumption) | assumption | exact aw_drew _) bz)
      | (go_at_call 22; (with_reducible refine (O1.out _).mono ?_); rintro e wz ⟨rfl, bz⟩; have bz' := aw_next (W := w1) (by first | exact And.left (by assumption) | assumption | exact aw_drew _) bz)
      | (go_at_call 23; (with_reducible refine (O2.out _).mono ?_); rintro e wz ⟨rfl, bz⟩; have bz' := aw_next (W := w1) (by first | exact And.left (by assumption) | assumption | exact aw_drew _) bz)
      | (go_at_call 24; (with_reducible refine (K1.out _).mono ?_); rintro e wz ⟨rfl, rfl⟩)
      | (go_at_call 25; (with_reducible refine (K2.out _).mono ?_); rintro e wz ⟨rfl, bz⟩; have bz' := aw_next (W := w1) (by first | exact And.left (by assumption) | assumption | exact aw_drew _) bz)
      | (go_at_call 26; (with_reducible refine (Q1.out _).mono ?_); rintro e wz ⟨rfl, bz⟩; have bz' := aw_next (W := w1) (by first | exact And.left (by assumption) | assumption | exact aw_drew _) bz)
      | (go_at_call 27; (with_reducible refine (Q2.out _).mono ?_); rintro e wz ⟨rfl, bz⟩; have bz' := aw_next (W := w1) (by first | exact And.left (by assumption) | assumption | exact aw_drew _) bz)))
  all_goals
    go_wp2_with fail
    go_ret
    exact ⟨rfl, TB.out _ (aw_next B1.out (by first | exact And.left (by assumption) | assumption))⟩
theorem tells_walk (t : Tok) (s : ByteArray) (w : World) : Calls Try.prog 5 #[tokV t, .string s] w (RB true w) := by
  by_cases h : 300 < t.text.size ∨ 300 < s.size
  · exact tells_far t s w h
  · exact tells_near t s w (by omega) (by omega)
end Go.Proofs.Ytgcojmjllpjefaa
