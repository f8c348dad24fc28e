/- The walk of LexShows. -/
import Derived.Test.YtgcojmjllpjefaaAwake
import Derived.Test.YtgcojmjllpjefaaRefShow
namespace Go.Proofs.Ytgcojmjllpjefaa
open Go.RowKit Go.Proofs.LexMath

theorem shows_back (ts : List Tok) (hf : fewB ts = true) (ha : allR ts = true) : (bs (showL ts)).size ≤ 100000 ∧ ∃ m, lex (bs (showL ts)).data.toList = .ok m ∧ sameB m ts = true := by
  obtain ⟨h1, h2⟩ := few_all hf
  have hr : ∀ t ∈ ts, rightB t = true := by unfold allR at ha; exact List.all_eq_true.1 ha
  have hl := showL_len ts 300 (fun t ht => ⟨hr t ht, h2 t ht⟩)
  obtain ⟨m, e, hs⟩ := lex_show ts hr (by omega)
  refine ⟨?_, m, by rw [bs_list]; exact e, ?_⟩
  · rw [bs_size]
    have : ts.length * (4 * 300 + 21) ≤ 60 * (4 * 300 + 21) := Nat.mul_le_mul_right _ h1
    omega
  · unfold sameB
    unfold sameL at hs
    simpa using hs
set_option maxHeartbeats 2000000 in
theorem shows_walk (v1 : Value) (ts : List Tok) (w : World) (h1 : ToksAt w v1 ts) : Calls Try.prog 4 #[v1] w (RB true w) := by
  obtain ⟨p, c, rfl⟩ := toks_form h1
  have F1 := fun W (b : Below w.heap.size w W) => few_any _ ts W (h1.below b)
  cases hf : fewB ts with
  | false =>
    rw [hf] at F1
    have FF := Lib.hid F1
    clear F1 hf
    go_enter Try.func4, Try.ntmps4
    go_wp2_with fail
    refine (awake_any _).mono ?_
    rintro e w1 ⟨rfl, b1⟩
    have B1 := Lib.hid b1
    clear b1
    go_wp2_with fail
    refine (FF.out _ B1.out).mono ?_
    rintro e w2 ⟨rfl, rfl⟩
    go_wp2_with fail
    refine (awake_any _).mono ?_
    rintro e w2 ⟨rfl, b2⟩
    go_wp2
    go_ret
    exact ⟨rfl, B1.out.trans (b2.mono B1.out.size)⟩
  | true =>
    rw [hf] at F1
    have FF := Lib.hid F1
    clear F1
    obtain ⟨l1, l2⟩ := few_all hf
    have H1 := Lib.hid h1
    have OX := Lib.hid (fun W (b : Below w.heap.size w W) => own_any _ ts W (h1.below b) (by omega))
    have SX := fun v W h => lshow_any v ts W h (by omega) (fun t ht => Nat.le_trans (l2 t ht) (by omega))
    have SR := fun W (b : Below w.heap.size w W) => rshow_ref _ ts W (h1.below b) (by omega) (fun t ht => Nat.le_trans (l2 t ht) (by omega))
    cases ha : allR ts with
    | false =>
      rw [showV, if_neg (by rw [ha]; simp)] at SX
      rw [rshowV, if_neg (by rw [ha]; simp)] at SR
      have SX := Lib.hid SX
      have SR := Lib.hid SR
      clear hf h1 ha l1 l2
      go_enter Try.func4, Try.ntmps4
      go_wp2_with fail
      refine (awake_any _).mono ?_
      rintro e w1 ⟨rfl, b1⟩
      have B1 := Lib.hid b1
      clear b1
      go_wp2_with fail
      refine (FF.out _ B1.out).mono ?_
      rintro e w2 ⟨rfl, rfl⟩
      go_wp2_with fail
      refine (OX.out _ B1.out).mono ?_
      rintro e w2 ⟨v3, rfl, t3, b2⟩
      obtain ⟨p3, c3, rfl⟩ := toks_form t3
      have B2 := Lib.hid (B1.out.trans (b2.mono B1.out.size))
      have T3 := Lib.hid t3
      clear b2 B1 t3
      go_wp2_with fail
      refine (SX.out _ _ T3.out).mono ?_
      rintro e w3 ⟨rfl, b3⟩
      have B3 := Lib.hid (B2.out.trans (b3.mono B2.out.size))
      clear b3 B2
      go_wp2_with fail
      refine (SR.out _ B3.out).mono ?_
      rintro e w4 ⟨rfl, b4⟩
      go_wp2
      go_ret
      exact ⟨rfl, B3.out.trans (b4.mono B3.out.size)⟩
    | true =>
      rw [showV, if_pos ha] at SX
      rw [rshowV, if_pos ha] at SR
      obtain ⟨hz, m, hm, hs⟩ := shows_back ts hf ha
      have L := fun W => lex_any (bs (showL ts)) W (by omega)
      rw [hm] at L
      have ml := lex_ok_len hm
      have OM := Lib.hid (fun v W h => own_any v m W h (by omega))
      have LS := fun v1 v2 W h1 h2 => lsame_any v1 v2 m ts W h1 h2 (by omega)
      have RS := fun v1 v2 W h1 h2 => rsame_any v1 v2 m ts W h1 h2 (by omega)
      rw [hs] at LS RS
      generalize bs (showL ts) = x at *
      have SX := Lib.hid SX
      have SR := Lib.hid SR
      have LL := Lib.hid L
      have LS := Lib.hid LS
      have RS := Lib.hid RS
      clear hf h1 ha l1 l2 hm hs L ml hz
      go_enter Try.func4, Try.ntmps4
      go_wp2_with fail
      refine (awake_any _).mono ?_
      rintro e w1 ⟨rfl, b1⟩
      have B1 := Lib.hid b1
      clear b1
      go_wp2_with fail
      refine (FF.out _ B1.out).mono ?_
      rintro e w2 ⟨rfl, rfl⟩
      go_wp2_with fail
      refine (OX.out _ B1.out).mono ?_
      rintro e w2 ⟨v3, rfl, t3, b2⟩
      obtain ⟨p3, c3, rfl⟩ := toks_form t3
      have B2 := Lib.hid (B1.out.trans (b2.mono B1.out.size))
      have T3 := Lib.hid t3
      clear b2 B1 t3
      go_wp2_with fail
      refine (SX.out _ _ T3.out).mono ?_
      rintro e w3 ⟨rfl, b3⟩
      have B3 := Lib.hid (B2.out.trans (b3.mono B2.out.size))
      clear b3 B2
      go_wp2_with fail
      refine (SR.out _ B3.out).mono ?_
      rintro e w4 ⟨rfl, b4⟩
      have B4 := Lib.hid (B3.out.trans (b4.mono B3.out.size))
      clear b4 B3
      go_wp2_with fail
      refine (LL.out _).mono ?_
      rintro e w5 ⟨v5, rfl, t5, b5⟩
      obtain ⟨p5, c5, rfl⟩ := toks_form t5
      have B5 := Lib.hid (B4.out.trans (b5.mono B4.out.size))
      have T5 := Lib.hid t5
      clear b5 B4 t5
      go_wp2_with fail
      refine (RS.out _ _ _ T5.out (H1.out.below B5.out)).mono ?_
      rintro e w6 ⟨rfl, b6⟩
      have B6 := Lib.hid (B5.out.trans (b6.mono B5.out.size))
      have T5 := Lib.hid (T5.out.below b6)
      clear b6 B5
      go_wp2_with fail
      refine (OM.out _ _ T5.out).mono ?_
      rintro e w7 ⟨v7, rfl, t7, b7⟩
      obtain ⟨p7, c7, rfl⟩ := toks_form t7
      have B7 := Lib.hid (B6.out.trans (b7.mono B6.out.size))
      have T7 := Lib.hid t7
      clear b7 B6 t7
      go_wp2_with fail
      refine (OX.out _ B7.out).mono ?_
      rintro e w8 ⟨v8, rfl, t8, b8⟩
      obtain ⟨p8, c8, rfl⟩ := toks_form t8
      have B8 := Lib.hid (B7.out.trans (b8.mono B7.out.size))
      have T8 := Lib.hid t8
      have T7 := Lib.hid (T7.out.below b8)
      clear b8 B7 t8
      go_wp2_with fail
      refine (LS.out _ _ _ T7.out T8.out).mono ?_
      rintro e w9 ⟨rfl, b9⟩
      go_wp2
      go_ret
      exact ⟨rfl, B8.out.trans (b9.mono B8.out.size)⟩
end Go.Proofs.Ytgcojmjllpjefaa
