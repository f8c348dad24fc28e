/- The contract of skip: blanks and comments are passed over. -/
import Derived.Test.YtgcojmjllpjefaaSpan
namespace Go.Proofs.Ytgcojmjllpjefaa
open Go.RowKit Go.Proofs.LexMath

theorem nl1_any (r : Int) (w : World) : Calls Try.prog 45 #[.int .i32 r] w fun e w' => e = .returned (.bool (nl r)) ∧ w = w' := by
  go_enter Try.func45, Try.ntmps45
  go_wp2
  go_ret
  exact ⟨rfl, rfl⟩
theorem nl_cls (w : World) : Cls w (.func (.func 45) #[] #[]) nl :=
  ⟨45, #[], rfl, call45, fun r W _ => (nl1_any r W).mono fun _ _ ⟨he, hw⟩ => ⟨he, hw ▸ Below.refl _ _⟩⟩
theorem nl_wide : Wide nl := .inl fun r hr => by simp [nl]; omega
/-- What holds at each jump back. -/
inductive SJump (s : ByteArray) (W : World) (n : Nat) : Act → World → Prop
  | mk (m : Nat) (u2 u3 u5 u6 u7 u8 u9 u10 u11 u12 u13 u14 u15 u16 u17 u18 u19 u20 u21 u22 u23 : Value) (w : World) (hm : m ≤ s.size) (hb : Below W.heap.size W w) (hn : m + skp false (s.data.toList.drop m) = n) :
    SJump s W n { tmps := #[.string s, .int .i64 m, u2, u3, .int .i64 0, u5, u6, u7, u8, u9, u10, u11, u12, u13, u14, u15, u16, u17, u18, u19, u20, u21, u22, u23], defers := [] } w
theorem skp_at (s : ByteArray) (m : Nat) (h : m < s.size) :
    ((iv s[m] = 32 ∨ iv s[m] = 10) → m + skp false (s.data.toList.drop m) = m + 1 + skp false (s.data.toList.drop (m + 1))) ∧
    (iv s[m] = 35 → m + skp false (s.data.toList.drop m) = m + run nl (s.data.toList.drop m) + skp false (s.data.toList.drop (m + run nl (s.data.toList.drop m))) ∧ 1 ≤ run nl (s.data.toList.drop m)) ∧
    (¬ (iv s[m] = 32 ∨ iv s[m] = 10) → ¬ iv s[m] = 35 → skp false (s.data.toList.drop m) = 0) := by
  have e := drop_at s m h
  generalize s[m] = c at *
  have e2 : s.data.toList.drop (m + run nl (s.data.toList.drop m)) = (s.data.toList.drop m).drop (run nl (s.data.toList.drop m)) := by rw [List.drop_drop]
  rw [e2, e]
  generalize s.data.toList.drop (m + 1) = r at *
  refine ⟨fun h => ?_, fun h => ?_, fun h1 h2 => ?_⟩
  · simp only [skp, h, if_true]; omega
  · have h1 : skp false (c :: r) = skp true r + 1 := by simp [skp, h]
    have h2 := run_yes nl c r (by simp [nl, h])
    rw [h1, h2, List.drop_succ_cons, skp_comment]
    omega
  · simp [skp, h1, h2]
theorem test_iv {a : Int} {c : UInt8} (h : iv c = a) : ((c.toNat : Int) == a) = true := by simpa [iv] using h
theorem test_iv' {a : Int} {c : UInt8} (h : ¬ iv c = a) : ((c.toNat : Int) == a) = false := by simpa [iv] using h
set_option maxHeartbeats 1000000 in
theorem skip_any (s : ByteArray) (at_ : Nat) (w : World) (hat : at_ ≤ s.size) (hs : s.size ≤ 1000000000) :
    Calls Try.prog 28 #[.string s, .int .i64 at_] w fun e w' => e = .returned (.int .i64 ((at_ + skp false (s.data.toList.drop at_) : Nat) : Int)) ∧ Below w.heap.size w w' := by
  have AT := Lib.hid (skp_at s)
  obtain ⟨n, hn⟩ : ∃ n, at_ + skp false (s.data.toList.drop at_) = n := ⟨_, rfl⟩
  rw [hn]
  have HN := Lib.hid hn
  clear hn
  go_enter Try.func28, Try.ntmps28
  go_wp2
  refine wp_scope_jumps 0 (SJump s w n) (fun a' _ => s.size - (intOf (a'.tmps.getD 1 undef)).toNat) rfl ?_ ?_
  · by_cases h1 : at_ < s.size
    · have A := Lib.hid (AT.out at_ h1)
      have t0 : ((at_ : Int) == (s.size : Int)) = false := by simp; omega
      have hb : (s[at_].toNat : Int) ≤ 255 := by have := s[at_].toNat_lt; omega
      by_cases h2 : iv s[at_] = 32
      · have t := test_iv h2
        have E := Lib.hid (A.out.1 (.inl h2))
        clear h2
        go_wp2
        go_step3
        go_wp2
        go_step3
        exact ⟨rfl, .mk (at_ + 1) _ _ _ _ _ _ _ _ _ _ _ _ _ _ _ _ _ _ _ _ _ _ (by omega) (Below.refl _ _) (by rw [← E.out]; exact HN.out)⟩
      · by_cases h3 : iv s[at_] = 10
        · have t := test_iv h3
          have t' := test_iv' h2
          have E := Lib.hid (A.out.1 (.inr h3))
          clear h2 h3
          go_wp2
          go_step3
          go_wp2
          go_step3
          exact ⟨rfl, .mk (at_ + 1) _ _ _ _ _ _ _ _ _ _ _ _ _ _ _ _ _ _ _ _ _ _ (by omega) (Below.refl _ _) (by rw [← E.out]; exact HN.out)⟩
        · have t := test_iv' h2
          have t' := test_iv' h3
          by_cases h4 : iv s[at_] = 35
          · have t2 := test_iv h4
            have E := Lib.hid (A.out.2.1 h4)
            have hrl := run_le nl (s.data.toList.drop at_)
            rw [List.length_drop] at hrl
            have hrl' : at_ + run nl (s.data.toList.drop at_) ≤ s.size := by have : s.data.toList.length = s.size := rfl; omega
            clear h2 h3 h4 hrl
            have S := fun W => span_any s at_ _ nl W (by omega) hs nl_wide (nl_cls W)
            have hk1 := E.out.2
            generalize hk : run nl (s.data.toList.drop at_) = k at *
            have HK := Lib.hid hk
            have HS := Lib.hid S
            clear hk S
            go_wp2
            go_step3
            go_wp2_with (go_at_call 44; refine (HS.out _).mono ?_; rintro e w1 ⟨rfl, b1⟩)
            go_step3
            exact ⟨rfl, .mk (at_ + k) _ _ _ _ _ _ _ _ _ _ _ _ _ _ _ _ _ _ _ _ _ _ (by omega) (b1) (by rw [← E.out.1]; exact HN.out)⟩
          · have t2 := test_iv' h4
            have E := Lib.hid (A.out.2.2 (by omega) h4)
            clear h2 h3 h4
            go_wp2
            go_step3
            go_wp2
            try simp only [Exit.jump]
            go_ret
            exact ⟨ret_int (by rw [← HN.out, E.out]; rfl), (Below.refl _ _)⟩
    · have t0 : ((at_ : Int) == (s.size : Int)) = true := by simp; omega
      have E : Hid (skp false (s.data.toList.drop at_) = 0) := by
        rw [List.drop_eq_nil_of_le (by show s.data.size ≤ _; have : s.size = s.data.size := rfl; omega)]; rfl
      go_wp2
      go_step3
      go_wp2
      try simp only [Exit.jump]
      go_ret
      exact ⟨ret_int (by rw [← HN.out, E.out]; rfl), (Below.refl _ _)⟩
  · intro a' w' hJ
    rcases hJ with @⟨m, u2, u3, u5, u6, u7, u8, u9, u10, u11, u12, u13, u14, u15, u16, u17, u18, u19, u20, u21, u22, u23, _, hm, hb, hn⟩
    have HB := Lib.hid hb
    have HN := Lib.hid hn
    clear hb hn
    by_cases h1 : m < s.size
    · have A := Lib.hid (AT.out m h1)
      have t0 : ((m : Int) == (s.size : Int)) = false := by simp; omega
      have hb : (s[m].toNat : Int) ≤ 255 := by have := s[m].toNat_lt; omega
      by_cases h2 : iv s[m] = 32
      · have t := test_iv h2
        have E := Lib.hid (A.out.1 (.inl h2))
        clear h2
        go_wp2
        go_step3
        exact ⟨rfl, .mk (m + 1) _ _ _ _ _ _ _ _ _ _ _ _ _ _ _ _ _ _ _ _ _ _ (by omega) HB.out (by rw [← E.out]; exact HN.out), by simp [intOf]; omega⟩
      · by_cases h3 : iv s[m] = 10
        · have t := test_iv h3
          have t' := test_iv' h2
          have E := Lib.hid (A.out.1 (.inr h3))
          clear h2 h3
          go_wp2
          go_step3
          exact ⟨rfl, .mk (m + 1) _ _ _ _ _ _ _ _ _ _ _ _ _ _ _ _ _ _ _ _ _ _ (by omega) HB.out (by rw [← E.out]; exact HN.out), by simp [intOf]; omega⟩
        · have t := test_iv' h2
          have t' := test_iv' h3
          by_cases h4 : iv s[m] = 35
          · have t2 := test_iv h4
            have E := Lib.hid (A.out.2.1 h4)
            have hrl := run_le nl (s.data.toList.drop m)
            rw [List.length_drop] at hrl
            have hrl' : m + run nl (s.data.toList.drop m) ≤ s.size := by have : s.data.toList.length = s.size := rfl; omega
            clear h2 h3 h4 hrl
            have S := fun W => span_any s m _ nl W (by omega) hs nl_wide (nl_cls W)
            have hk1 := E.out.2
            generalize hk : run nl (s.data.toList.drop m) = k at *
            have HK := Lib.hid hk
            have HS := Lib.hid S
            clear hk S
            go_wp2_with (go_at_call 44; refine (HS.out _).mono ?_; rintro e w1 ⟨rfl, b1⟩)
            go_step3
            exact ⟨rfl, .mk (m + k) _ _ _ _ _ _ _ _ _ _ _ _ _ _ _ _ _ _ _ _ _ _ (by omega) (HB.out.trans (b1.mono HB.out.size)) (by rw [← E.out.1]; exact HN.out), by simp [intOf]; omega⟩
          · have t2 := test_iv' h4
            have E := Lib.hid (A.out.2.2 (by omega) h4)
            clear h2 h3 h4
            go_wp2
            try simp only [Exit.jump]
            go_ret
            exact ⟨ret_int (by rw [← HN.out, E.out]; rfl), HB.out⟩
    · have t0 : ((m : Int) == (s.size : Int)) = true := by simp; omega
      have E : Hid (skp false (s.data.toList.drop m) = 0) := by
        rw [List.drop_eq_nil_of_le (by show s.data.size ≤ _; have : s.size = s.data.size := rfl; omega)]; rfl
      go_wp2
      try simp only [Exit.jump]
      go_ret
      exact ⟨ret_int (by rw [← HN.out, E.out]; rfl), HB.out⟩
end Go.Proofs.Ytgcojmjllpjefaa
