/- The contract of Word: how a token is written. -/
import Derived.Test.YtgcojmjllpjefaaQuote
namespace Go.Proofs.Ytgcojmjllpjefaa
open Go.RowKit Go.Proofs.LexMath

theorem right_wr (t : Tok) (h : rightB t = true) (hk : t.kind = 3) : wr t.num = t.num := by
  simp [rightB, hk] at h
  exact h.2.2
theorem word_no (t : Tok) (h : rightB t = false) : bs (wordR t) = ⟨#[]⟩ := by simp [wordR, h, bs]
theorem word_3 (t : Tok) (h : rightB t = true) (hk : t.kind = 3) : bs (wordR t) = shw (wr t.num) := by
  rw [right_wr t h hk]
  simp [wordR, h, wordL, hk, shwL, bs_of]
theorem word_4 (t : Tok) (h : rightB t = true) (hk : t.kind = 4) : bs (wordR t) = bs (quote t.text.data.toList) := by
  simp [wordR, h, wordL, hk, Tok.bytes]
theorem word_o (t : Tok) (h : rightB t = true) (h3 : ¬ t.kind = 3) (h4 : ¬ t.kind = 4) : bs (wordR t) = t.text := by
  simp [wordR, h, wordL, h3, h4, Tok.bytes, bs_of]
def SRet (s : ByteArray) (W : World) (e : Ending) (w' : World) : Prop := e = .returned (.string s) ∧ Below W.heap.size W w'
set_option maxHeartbeats 1000000 in
theorem word_any (t : Tok) (w : World) (hs : t.text.size ≤ 10000) : Calls Try.prog 22 #[tokV t] w (SRet (bs (wordR t)) w) := by
  have C := right_any t (tokW t w) (by omega)
  cases hr : rightB t with
  | false =>
    have E := word_no t hr
    rw [hr] at C
    generalize bs (wordR t) = x at *
    obtain ⟨k, s, n, a⟩ := t
    have CC := Lib.hid C
    have EE := Lib.hid E
    clear C E hr
    unfold tokV
    go_enter Try.func22, Try.ntmps22
    go_wp2_with fail
    refine CC.out.mono ?_
    rintro e w1 ⟨rfl, b1⟩
    go_wp2
    go_ret
    exact ⟨ret_str EE.out.symm, tokW_below b1⟩
  | true =>
    rw [hr] at C
    have CC := Lib.hid C
    clear C
    by_cases h3 : t.kind = 3
    · have E := word_3 t hr h3
      have S := fun W => show_any t.num W
      have t1 : (t.kind == 3) = true := by simpa using h3
      obtain ⟨k, s, n, a⟩ := t
      simp only at h3
      simp only at E S t1
      generalize shw (wr n) = y at *
      generalize bs (wordR ⟨k, s, n, a⟩) = x at *
      have EE := Lib.hid E
      have SS := Lib.hid S
      clear E S hr h3
      unfold tokV
      go_enter Try.func22, Try.ntmps22
      go_wp2_with fail
      refine CC.out.mono ?_
      rintro e w1 ⟨rfl, b1⟩
      have ⟨q1, q2, q3, q4⟩ := tokW_facts b1
      simp only at q1 q2 q3 q4
      go_wp2_with fail
      refine (SS.out _).mono ?_
      rintro e w2 ⟨rfl, b2⟩
      go_wp2
      go_ret
      exact ⟨ret_str EE.out.symm, tokW_below (b1.trans (b2.mono b1.size))⟩
    · have t1 : (t.kind == 3) = false := by simpa using h3
      by_cases h4 : t.kind = 4
      · have E := word_4 t hr h4
        have S := fun W => quote_any t.text W hs
        have t2 : (t.kind == 4) = true := by simpa using h4
        obtain ⟨k, s, n, a⟩ := t
        simp only at h3 h4
        simp only at E S t1 t2
        generalize bs (quote s.data.toList) = y at *
        generalize bs (wordR ⟨k, s, n, a⟩) = x at *
        have EE := Lib.hid E
        have SS := Lib.hid S
        clear E S hr h3 h4
        unfold tokV
        go_enter Try.func22, Try.ntmps22
        go_wp2_with fail
        refine CC.out.mono ?_
        rintro e w1 ⟨rfl, b1⟩
        have ⟨q1, q2, q3, q4⟩ := tokW_facts b1
        simp only at q1 q2 q3 q4
        go_wp2_with fail
        refine (SS.out _).mono ?_
        rintro e w2 ⟨rfl, b2⟩
        go_wp2
        go_ret
        exact ⟨ret_str EE.out.symm, tokW_below (b1.trans (b2.mono b1.size))⟩
      · have E := word_o t hr h3 h4
        have t2 : (t.kind == 4) = false := by simpa using h4
        obtain ⟨k, s, n, a⟩ := t
        simp only at h3 h4
        simp only at E t1 t2
        generalize bs (wordR ⟨k, s, n, a⟩) = x at *
        have EE := Lib.hid E
        clear E hr h3 h4
        unfold tokV
        go_enter Try.func22, Try.ntmps22
        go_wp2_with fail
        refine CC.out.mono ?_
        rintro e w1 ⟨rfl, b1⟩
        have ⟨q1, q2, q3, q4⟩ := tokW_facts b1
        simp only at q1 q2 q3 q4
        go_wp2
        go_ret
        exact ⟨ret_str EE.out.symm, tokW_below b1⟩
end Go.Proofs.Ytgcojmjllpjefaa
