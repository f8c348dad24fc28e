/- The walk of LexQuotes. -/
import Derived.Test.YtgcojmjllpjefaaAwake
namespace Go.Proofs.Ytgcojmjllpjefaa
open Go.RowKit Go.Proofs.LexMath

theorem quotes_at (q : Bs) (hq : ∀ d ∈ q, pln (iv d) = true) (s : ByteArray) (hs : s.data.toList = q) (k : Nat) (hk : k < s.size) : 32 ≤ (s[k].toNat : Int) ∧ (s[k].toNat : Int) ≤ 126 := by
  have hk' : k < s.data.toList.length := hk
  have h := hq s[k] (by rw [← hs]; exact List.getElem_mem hk')
  simp only [pln, iv, Bool.and_eq_true] at h
  exact ⟨of_decide_eq_true h.1, of_decide_eq_true h.2⟩
theorem bs_len (a : Bs) : (bs a).size = a.length := by simp [bs, ByteArray.size]
theorem quotes_far (s : ByteArray) (w : World) (h : 300 < s.size) : Calls Try.prog 9 #[.string s] w (RB true w) := by
  have d : decide ((300 : Int) < (s.size : Int)) = true := by simp; omega
  clear h
  go_enter Try.func9, Try.ntmps9
  go_wp2_with fail
  refine (awake_any _).mono ?_
  rintro e w1 ⟨rfl, b1⟩
  have B1 := Lib.hid b1
  clear b1
  go_wp2_with fail
  refine (awake_any _).mono ?_
  rintro e w2 ⟨rfl, b2⟩
  go_wp2
  go_ret
  exact ⟨rfl, B1.out.trans (b2.mono B1.out.size)⟩
set_option maxHeartbeats 2000000 in
theorem quotes_long (s : ByteArray) (w : World) (h : s.size ≤ 300) (h2 : 200 < s.size) : Calls Try.prog 9 #[.string s] w (RB true w) := by
  have d : decide ((300 : Int) < (s.size : Int)) = false := by simp; omega
  have d2 : decide ((200 : Int) < (s.size : Int)) = true := by simp; omega
  have Q := fun W => quote_any s W (by omega)
  have hl := lex_long s.data.toList h2
  have hz : (bs (quote s.data.toList)).size ≤ 1300 := by
    rw [bs_len]
    have := qbody_len s.data.toList
    have hh : s.data.toList.length = s.size := rfl
    simp [quote]
    omega
  have L := fun W => lex_any (bs (quote s.data.toList)) W (by omega)
  have AT := quotes_at _ (quote_plain s.data.toList) _ (bs_list _)
  rw [bs_list, hl] at L
  generalize bs (quote s.data.toList) = x at *
  have AT := Lib.hid AT
  have QQ := Lib.hid Q
  have LL := Lib.hid L
  clear Q L hl h h2
  go_enter Try.func9, Try.ntmps9
  go_wp2_with fail
  refine (awake_any _).mono ?_
  rintro e w1 ⟨rfl, b1⟩
  have B1 := Lib.hid b1
  clear b1
  go_wp2_with fail
  refine (QQ.out _).mono ?_
  rintro e w2 ⟨rfl, b2⟩
  have B2 := Lib.hid (B1.out.trans (b2.mono B1.out.size))
  clear b2 B1
  go_wp2_with fail
  refine (LL.out _).mono ?_
  rintro e w3 ⟨rfl, b3⟩
  have B3 := Lib.hid (B2.out.trans (b3.mono B2.out.size))
  clear b3 B2
  go_wp2
  go_loop [7] (fun i => ∃ k : Nat, k ≤ x.size ∧ i = .int .i64 k) (fun i => x.size - (intOf i).toNat)
  case atStart => exact ⟨0, Nat.zero_le _, rfl⟩
  case round =>
    obtain ⟨k, hk, rfl⟩ := hrel
    by_cases hlt : k < x.size
    · obtain ⟨g1, g2⟩ := AT.out k hlt
      go_wp2
      go_round
      case rel => exact ⟨k + 1, by omega, by go_num⟩
      case measure => simp [intOf]; omega
    · go_wp2
      go_ret
      exact ⟨rfl, B3.out⟩
set_option maxHeartbeats 2000000 in
theorem quotes_short (s : ByteArray) (w : World) (h2 : s.size ≤ 200) : Calls Try.prog 9 #[.string s] w (RB true w) := by
  have d : decide ((300 : Int) < (s.size : Int)) = false := by simp; omega
  have d2 : decide ((200 : Int) < (s.size : Int)) = false := by simp; omega
  have Q := fun W => quote_any s W (by omega)
  have hl := lex_quote s.data.toList h2
  have hz : (bs (quote s.data.toList)).size ≤ 1300 := by
    rw [bs_len]
    have := qbody_len s.data.toList
    have hh : s.data.toList.length = s.size := rfl
    simp [quote]
    omega
  have L := fun W => lex_any (bs (quote s.data.toList)) W (by omega)
  have AT := quotes_at _ (quote_plain s.data.toList) _ (bs_list _)
  rw [bs_list, hl, bs_of] at L
  generalize bs (quote s.data.toList) = x at *
  have AT := Lib.hid AT
  have QQ := Lib.hid Q
  have LL := Lib.hid L
  clear Q L hl h2
  go_enter Try.func9, Try.ntmps9
  go_wp2_with fail
  refine (awake_any _).mono ?_
  rintro e w1 ⟨rfl, b1⟩
  have B1 := Lib.hid b1
  clear b1
  go_wp2_with fail
  refine (QQ.out _).mono ?_
  rintro e w2 ⟨rfl, b2⟩
  have B2 := Lib.hid (B1.out.trans (b2.mono B1.out.size))
  clear b2 B1
  go_wp2_with fail
  refine (LL.out _).mono ?_
  rintro e w3 ⟨v3, rfl, t3, b3⟩
  obtain ⟨b, off, c, rfl, hb, hc⟩ := toks_some (n := 0) t3 rfl
  have q0 := hc.tok 0 (by simp)
  simp only [Nat.zero_mul, Nat.add_zero, List.getD_cons_zero] at q0
  obtain ⟨q1, q2, q3, q4⟩ := q0
  have B3 := Lib.hid (B2.out.trans (b3.mono B2.out.size))
  clear b3 B2 t3 hc
  go_wp2
  go_loop [7] (fun i => ∃ k : Nat, k ≤ x.size ∧ i = .int .i64 k) (fun i => x.size - (intOf i).toNat)
  case atStart => exact ⟨0, Nat.zero_le _, rfl⟩
  case round =>
    obtain ⟨k, hk, rfl⟩ := hrel
    by_cases hlt : k < x.size
    · obtain ⟨g1, g2⟩ := AT.out k hlt
      go_wp2
      go_round
      case rel => exact ⟨k + 1, by omega, by go_num⟩
      case measure => simp [intOf]; omega
    · go_wp2
      go_ret
      exact ⟨rfl, B3.out⟩
theorem quotes_walk (s : ByteArray) (w : World) : Calls Try.prog 9 #[.string s] w (RB true w) := by
  by_cases h : 300 < s.size
  · exact quotes_far s w h
  · by_cases h2 : 200 < s.size
    · exact quotes_long s w (by omega) h2
    · exact quotes_short s w (by omega)
end Go.Proofs.Ytgcojmjllpjefaa
