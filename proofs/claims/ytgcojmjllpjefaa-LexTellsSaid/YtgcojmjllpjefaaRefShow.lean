/- The contracts of the document's own Word and Show. -/
import Derived.Test.YtgcojmjllpjefaaRefRight
import Derived.Test.YtgcojmjllpjefaaRefQuote
namespace Go.Proofs.Ytgcojmjllpjefaa
open Go.RowKit Go.Proofs.LexMath

set_option maxHeartbeats 1000000 in
theorem rword_any (t : Tok) (w : World) (hs : t.text.size ≤ 10000) : Calls Try.prog 23 #[tokV t] w (SRet (bs (wordR t)) w) := by
  have C := rright_any t (tokW t w) (by omega)
  cases hr : rightB t with
  | false =>
    have E := word_no t hr
    rw [hr] at C
    generalize bs (wordR t) = x at *
    obtain ⟨k, s, n, a⟩ := t
    have CC := Lib.hid C
    have EE := Lib.hid E
    clear C E hr
    unfold tokV
    go_enter Try.func23, Try.ntmps23
    go_wp2_with fail
    refine CC.out.mono ?_
    rintro e w1 ⟨rfl, b1⟩
    go_wp2
    go_ret
    exact ⟨ret_str EE.out.symm, tokW_below b1⟩
  | true =>
    rw [hr] at C
    have CC := Lib.hid C
    clear C
    by_cases h3 : t.kind = 3
    · have E := word_3 t hr h3
      have S := fun W => rshow_any t.num W
      have t1 : (t.kind == 3) = true := by simpa using h3
      obtain ⟨k, s, n, a⟩ := t
      simp only at h3
      simp only at E S t1
      generalize shw (wr n) = y at *
      generalize bs (wordR ⟨k, s, n, a⟩) = x at *
      have EE := Lib.hid E
      have SS := Lib.hid S
      clear E S hr h3
      unfold tokV
      go_enter Try.func23, Try.ntmps23
      go_wp2_with fail
      refine CC.out.mono ?_
      rintro e w1 ⟨rfl, b1⟩
      have ⟨q1, q2, q3, q4⟩ := tokW_facts b1
      simp only at q1 q2 q3 q4
      go_wp2_with fail
      refine (SS.out _).mono ?_
      rintro e w2 ⟨rfl, b2⟩
      go_wp2
      go_ret
      exact ⟨ret_str EE.out.symm, tokW_below (b1.trans (b2.mono b1.size))⟩
    · have t1 : (t.kind == 3) = false := by simpa using h3
      by_cases h4 : t.kind = 4
      · have E := word_4 t hr h4
        have S := fun W => rquote_any t.text W hs
        have t2 : (t.kind == 4) = true := by simpa using h4
        obtain ⟨k, s, n, a⟩ := t
        simp only at h3 h4
        simp only at E S t1 t2
        generalize bs (quote s.data.toList) = y at *
        generalize bs (wordR ⟨k, s, n, a⟩) = x at *
        have EE := Lib.hid E
        have SS := Lib.hid S
        clear E S hr h3 h4
        unfold tokV
        go_enter Try.func23, Try.ntmps23
        go_wp2_with fail
        refine CC.out.mono ?_
        rintro e w1 ⟨rfl, b1⟩
        have ⟨q1, q2, q3, q4⟩ := tokW_facts b1
        simp only at q1 q2 q3 q4
        go_wp2_with fail
        refine (SS.out _).mono ?_
        rintro e w2 ⟨rfl, b2⟩
        go_wp2
        go_ret
        exact ⟨ret_str EE.out.symm, tokW_below (b1.trans (b2.mono b1.size))⟩
      · have E := word_o t hr h3 h4
        have t2 : (t.kind == 4) = false := by simpa using h4
        obtain ⟨k, s, n, a⟩ := t
        simp only at h3 h4
        simp only at E t1 t2
        generalize bs (wordR ⟨k, s, n, a⟩) = x at *
        have EE := Lib.hid E
        clear E hr h3 h4
        unfold tokV
        go_enter Try.func23, Try.ntmps23
        go_wp2_with fail
        refine CC.out.mono ?_
        rintro e w1 ⟨rfl, b1⟩
        have ⟨q1, q2, q3, q4⟩ := tokW_facts b1
        simp only at q1 q2 q3 q4
        go_wp2
        go_ret
        exact ⟨ret_str EE.out.symm, tokW_below b1⟩
def rshowV (ts : List Tok) : ByteArray × Bool := if allR ts = true then (bs (showL ts), true) else (⟨#[]⟩, false)
theorem r_end (ts : List Tok) (k n : Nat) (acc : Bs) (h : SAt ts k n acc) (hk : ¬ k < ts.length) : rshowV ts = (bs acc, true) := by
  obtain ⟨h1, h2, h3, h4, h5⟩ := h
  rw [List.take_of_length_le (by omega)] at h4 h5
  rw [rshowV, if_pos h5, h4]
theorem r_bad (ts : List Tok) (k : Nat) (hk : k < ts.length) (hr : rightB (ts.getD k default) = false) : rshowV ts = (⟨#[]⟩, false) := by
  have : allR ts = false := by
    rw [Bool.eq_false_iff]
    intro h
    unfold allR at h
    rw [List.all_eq_true] at h
    have := h ts[k] (List.getElem_mem hk)
    rw [get_tok ts k hk] at hr
    rw [hr] at this; cases this
  simp [rshowV, this]
def RShRet (x : ByteArray × Bool) (W : World) (e : Ending) (w' : World) : Prop := e = .returned (.tuple #[.string x.1, .bool x.2]) ∧ Below W.heap.size W w'
theorem ret_rsh {x : ByteArray × Bool} {a : ByteArray} {b : Bool} (h : x = (a, b)) : Ending.returned (.tuple #[.string a, .bool b]) = .returned (.tuple #[.string x.1, .bool x.2]) := by rw [h]
theorem rshow_zero (p : Option Addr) (c : Nat) (w : World) : Calls Try.prog 17 #[.slice p 0 c] w (RShRet (rshowV []) w) := by
  go_enter Try.func17, Try.ntmps17
  go_wp2
  refine wp_loop_rounds 1 ?_
  rw [rounds_succ]
  go_wp2
  go_ret2
  exact ⟨rfl, Below.refl _ _⟩
set_option maxHeartbeats 4000000 in
theorem rshow_some (b off c m : Nat) (ts : List Tok) (w : World) (hm : ts.length = m) (hc : Hid (CellsIn w b off (tokCells ts))) (hb : b < w.heap.size) (hn : m ≤ 4000) (hs : ∀ t ∈ ts, t.text.size ≤ 1000) :
    Calls Try.prog 17 #[.slice (some ⟨b, off, none⟩) m c] w (RShRet (rshowV ts) w) := by
  have START := Lib.hid (s_start ts)
  have END := Lib.hid (r_end ts)
  have BAD := Lib.hid (r_bad ts)
  have STEP := Lib.hid (s_step ts hs)
  have HT := Lib.hid hs
  have HM := Lib.hid hm
  clear hs hm
  generalize rshowV ts = x at *
  go_enter Try.func17, Try.ntmps17
  go_wp2
  go_loopw [4, 5] (fun t i wr => ∃ (k n : Nat) (acc : Bs), i = .int .i64 k ∧ SAt ts k n acc ∧ t = .string (bs acc) ∧ Below w.heap.size w wr) (fun _ i _ => m - (intOf i).toNat)
  case atStart => exact ⟨0, 0, [], by go_num, START.out, rfl, Below.refl _ _⟩
  case round =>
    obtain ⟨wo, hwo⟩ : ∃ wo : World, wo = wr := ⟨_, rfl⟩
    subst hwo
    obtain ⟨k, n, acc, rfl, hL, rfl, hB⟩ := hrel
    have hL' := hL
    obtain ⟨h1, h2, h3, -⟩ := hL'
    rw [HM.out] at h1
    have hza : (bs acc).size ≤ 16084000 := by rw [bs_size]; omega
    have HL := Lib.hid hL
    have hsz := hB.size
    have HB := Lib.hid hB
    clear hL hB h3
    by_cases hk : k < m
    · have hk' : k < ts.length := by rw [HM.out]; exact hk
      have q0 := hc.out.tok k hk'
      rw [← HB.out.cell (p := ⟨b, off + k * 4, none⟩) hb, ← HB.out.cell (p := ⟨b, off + k * 4 + 1, none⟩) hb, ← HB.out.cell (p := ⟨b, off + k * 4 + 2, none⟩) hb, ← HB.out.cell (p := ⟨b, off + k * 4 + 3, none⟩) hb] at q0
      have hts : (ts.getD k default).text.size ≤ 1000 := by rw [get_tok ts k hk']; exact HT.out _ (List.getElem_mem hk')
      have R1 := fun W => rright_any (ts.getD k default) W (by omega)
      have W1 := fun W => rword_any (ts.getD k default) W (by omega)
      have S1 := STEP.out k n acc HL.out hk'
      have B1 := BAD.out k hk'
      clear hk'
      generalize ts.getD k default = t at *
      cases hr : rightB t with
      | false =>
        have E := Lib.hid (B1 hr)
        rw [hr] at R1
        obtain ⟨tk, tt, tn, ta⟩ := t
        have RR := Lib.hid R1
        obtain ⟨q0, q1, q2, q3⟩ := q0
        simp only at q0 q1 q2 q3
        unfold tokV at RR
        clear hr S1 B1 R1 W1
        go_wp2_with fail
        refine (RR.out _).mono ?_
        rintro e w2 ⟨rfl, b2⟩
        have B2 := Lib.hid (HB.out.trans (b2.mono hsz))
        clear b2
        go_wp2
        go_ret2
        exact ⟨ret_rsh E.out, B2.out⟩
      | true =>
        obtain ⟨⟨hw0, hwl⟩, hS⟩ := S1 hr
        rw [hr] at R1
        generalize wordR t = x1 at *
        have hzx : (bs x1).size ≤ 4020 := by rw [bs_size]; exact hwl
        obtain ⟨tk, tt, tn, ta⟩ := t
        have RR := Lib.hid R1
        have WW := Lib.hid W1
        obtain ⟨q0, q1, q2, q3⟩ := q0
        simp only at q0 q1 q2 q3
        unfold tokV at RR WW
        have Q := Lib.hid (And.intro q0 (And.intro q1 (And.intro q2 q3)))
        clear hr B1 R1 W1 hw0
        have hbo : b < wo.heap.size := Nat.lt_of_lt_of_le hb hsz
        by_cases hk0 : 0 < k
        · rw [if_pos hk0, if_pos hk0] at hS
          have SS := Lib.hid hS
          clear hS
          go_wp2_with fail
          refine (RR.out _).mono ?_
          rintro e w2 ⟨rfl, b2⟩
          obtain ⟨a0, a1, a2, a3⟩ := Q.out
          have a0 := cell_keep hbo b2 _ a0
          have a1 := cell_keep hbo b2 _ a1
          have a2 := cell_keep hbo b2 _ a2
          have a3 := cell_keep hbo b2 _ a3
          have B2 := Lib.hid (HB.out.trans (b2.mono hsz))
          clear b2 q0 q1 q2 q3
          go_wp2_with fail
          refine (WW.out _).mono ?_
          rintro e w3 ⟨rfl, b3⟩
          have B3 := Lib.hid (B2.out.trans (b3.mono B2.out.size))
          clear b3
          go_wp2
          go_roundw
          case rel => exact ⟨k + 1, n + 1 + x1.length, _, by go_num, SS.out, by rw [← bs_append, ← bs_append]; rfl, B3.out⟩
          case measure => simp [intOf]; omega
        · rw [if_neg hk0, if_neg hk0, List.append_nil, Nat.add_zero] at hS
          have SS := Lib.hid hS
          clear hS
          go_wp2_with fail
          refine (RR.out _).mono ?_
          rintro e w2 ⟨rfl, b2⟩
          obtain ⟨a0, a1, a2, a3⟩ := Q.out
          have a0 := cell_keep hbo b2 _ a0
          have a1 := cell_keep hbo b2 _ a1
          have a2 := cell_keep hbo b2 _ a2
          have a3 := cell_keep hbo b2 _ a3
          have B2 := Lib.hid (HB.out.trans (b2.mono hsz))
          clear b2 q0 q1 q2 q3
          go_wp2_with fail
          refine (WW.out _).mono ?_
          rintro e w3 ⟨rfl, b3⟩
          have B3 := Lib.hid (B2.out.trans (b3.mono B2.out.size))
          clear b3
          go_wp2
          go_roundw
          case rel => exact ⟨k + 1, n + x1.length, _, by go_num, SS.out, by rw [← bs_append], B3.out⟩
          case measure => simp [intOf]; omega
    · have E := Lib.hid (END.out k n acc HL.out (by rw [HM.out]; exact hk))
      go_wp2
      go_ret2
      exact ⟨ret_rsh E.out, HB.out⟩
theorem rshow_ref (v : Value) (ts : List Tok) (w : World) (h : ToksAt w v ts) (hn : ts.length ≤ 4000) (hs : ∀ t ∈ ts, t.text.size ≤ 1000) : Calls Try.prog 17 #[v] w (RShRet (rshowV ts) w) := by
  obtain ⟨_, p, c, rfl, _, _, hp⟩ := h
  rcases ts with _ | ⟨x, ts⟩
  · exact rshow_zero p c w
  · obtain ⟨b, off, rfl, hb, hc⟩ := hp (by simp)
    exact rshow_some b off c _ (x :: ts) w rfl hc hb hn hs
end Go.Proofs.Ytgcojmjllpjefaa
