/- The contract of the document's own Lex: the tokens of a text, or where it goes wrong. -/
import Derived.Test.YtgcojmjllpjefaaRefOne
namespace Go.Proofs.Ytgcojmjllpjefaa
open Go.RowKit Go.Proofs.LexMath

def RexAt (s : ByteArray) (p n : Nat) (acc : List Tok) : Prop :=
  p ≤ s.size ∧ n ≤ 4000 ∧ acc.length = n ∧ lex s.data.toList = (lexAt p n (s.data.toList.drop p)).pre acc
theorem rex_start (s : ByteArray) : RexAt s 0 0 [] := ⟨Nat.zero_le _, by omega, rfl, by rw [Res.pre_nil, List.drop_zero]; rfl⟩
theorem rex_done (s : ByteArray) (p n : Nat) (acc : List Tok) (h : RexAt s p n acc) (hp : ¬ p < s.size) : lex s.data.toList = .ok acc := by
  have e : s.data.toList.drop p = [] := List.drop_eq_nil_of_le (by show s.data.size ≤ _; have : s.size = s.data.size := rfl; omega)
  rw [h.2.2.2, e, lexAt_nil]
  simp [Res.pre]
theorem rex_blank (s : ByteArray) (p n : Nat) (acc : List Tok) (h : RexAt s p n acc) (hp : p < s.size) (hc : iv s[p] = 32 ∨ iv s[p] = 10) : RexAt s (p + 1) n acc := by
  obtain ⟨h1, h2, h3, h4⟩ := h
  refine ⟨hp, h2, h3, ?_⟩
  rw [h4, drop_at s p hp, lexAt_blank p n _ _ hc]
theorem rex_comment (s : ByteArray) (p n : Nat) (acc : List Tok) (h : RexAt s p n acc) (hp : p < s.size) (hc : iv s[p] = 35) : p < p + run nl (s.data.toList.drop p) ∧ RexAt s (p + run nl (s.data.toList.drop p)) n acc := by
  obtain ⟨h1, h2, h3, h4⟩ := h
  have hr := run_le nl (s.data.toList.drop p)
  rw [List.length_drop] at hr
  have hl : s.data.toList.length = s.size := rfl
  have h5 := lexAt_comment p n s[p] (s.data.toList.drop (p + 1)) hc
  have h6 := run_yes nl s[p] (s.data.toList.drop (p + 1)) (by simp [nl, hc])
  rw [← drop_at s p hp] at h5 h6
  refine ⟨by omega, by omega, h2, h3, ?_⟩
  rw [h4, h5, List.drop_drop]
theorem rex_fail (s : ByteArray) (p n : Nat) (acc : List Tok) (h : RexAt s p n acc) (hp : p < s.size) (hb : NoBlank s[p]) (c : Int) (ho : one (s.data.toList.drop p) = .err c) : lex s.data.toList = .err c p := by
  rw [drop_at s p hp] at ho
  rw [h.2.2.2, drop_at s p hp, lexAt_err p n hb ho]
  rfl
theorem rex_full (s : ByteArray) (p : Nat) (acc : List Tok) (h : RexAt s p 4000 acc) (hp : p < s.size) (hb : NoBlank s[p]) (k v : Int) (t : Bs) (m : Nat) (ho : one (s.data.toList.drop p) = .tok k t v m) : lex s.data.toList = .err 33 p := by
  rw [drop_at s p hp] at ho
  rw [h.2.2.2, drop_at s p hp, lexAt_many p hb ho]
  rfl
theorem rex_step (s : ByteArray) (p n : Nat) (acc : List Tok) (h : RexAt s p n acc) (hp : p < s.size) (hb : NoBlank s[p]) (k v : Int) (t : Bs) (m : Nat) (ho : one (s.data.toList.drop p) = .tok k t v m) (hn : n < 4000) :
    (1 ≤ m ∧ p + m ≤ s.size) ∧ RexAt s (p + m) (n + 1) (acc ++ [⟨k, bs t, v, (p : Int)⟩]) := by
  have hs := one_size ho
  rw [List.length_drop] at hs
  have hl : s.data.toList.length = s.size := rfl
  obtain ⟨h1, h2, h3, h5⟩ := h
  refine ⟨⟨hs.1, by omega⟩, by omega, by omega, by simp; omega, ?_⟩
  rw [drop_at s p hp] at ho
  rw [h5, drop_at s p hp, lexAt_tok p n hb ho (by omega), Res.pre_pre, ← drop_at s p hp, List.drop_drop]
theorem trow_none (w : World) : TRow w.heap.size (w.alloc (.cells #[] 37)) (.slice (some ⟨w.heap.size, 0, none⟩) 0 0) 0 [] := World.ownsRow_made w #[] 0 (Nat.le_refl _) (Nat.zero_le _) rfl
set_option maxRecDepth 100000 in
set_option maxHeartbeats 4000000 in
theorem rlex_any (s : ByteArray) (w : World) (hs : s.size ≤ 100000) : Calls Try.prog 12 #[.string s] w (LexRet (lex s.data.toList) w) := by
  have DONE := Lib.hid (rex_done s)
  have BLANK := Lib.hid (rex_blank s)
  have COMM := Lib.hid (rex_comment s)
  have FAIL := Lib.hid (rex_fail s)
  have FULL := Lib.hid (rex_full s)
  have STEP := Lib.hid (rex_step s)
  have START := Lib.hid (rex_start s)
  have AT := Lib.hid (run_at nl s)
  have REND := Lib.hid (run_end nl s)
  have ROW := Lib.hid (trow_none w)
  have BEL : Hid (Below w.heap.size w (w.alloc (.cells #[] 37))) := Lib.hid ((Below.refl _ _).alloc (Nat.le_refl _) _)
  generalize hR : lex s.data.toList = R at *
  clear hR
  go_enter Try.func12, Try.ntmps12
  go_wp2
  go_loopw [5, 6] (fun l i wr => ∃ (p n : Nat) (acc : List Tok), i = .int .i64 p ∧ RexAt s p n acc ∧ TRow w.heap.size wr l n acc ∧ Below w.heap.size w wr) (fun _ i _ => s.size - (intOf i).toNat)
  case atStart => exact ⟨0, 0, [], by go_num, START.out, ROW.out, BEL.out⟩
  case round =>
    obtain ⟨wo, hwo⟩ : ∃ wo : World, wo = wr := ⟨_, rfl⟩
    subst hwo
    obtain ⟨p, n, acc, rfl, hL, hR, hB⟩ := hrel
    obtain ⟨pp, cap, rfl⟩ := hR.form
    have hL' := hL
    obtain ⟨h1, h2, -⟩ := hL'
    have HL := Lib.hid hL
    have HR := Lib.hid hR
    have hsz := hB.size
    have HB := Lib.hid hB
    clear hL hR hB
    by_cases hp : p < s.size
    · by_cases g1 : iv s[p] = 32
      · have t1 := test_iv g1
        have B := Lib.hid (BLANK.out p n acc HL.out hp (.inl g1))
        clear g1
        go_wp2
        go_roundw
        case rel => exact ⟨p + 1, n, acc, by go_num, B.out, HR.out, HB.out⟩
        case measure => simp [intOf]; omega
      · have t1 := test_iv' g1
        by_cases g2 : iv s[p] = 10
        · have t2 := test_iv g2
          have B := Lib.hid (BLANK.out p n acc HL.out hp (.inr g2))
          clear g1 g2
          go_wp2
          go_roundw
          case rel => exact ⟨p + 1, n, acc, by go_num, B.out, HR.out, HB.out⟩
          case measure => simp [intOf]; omega
        · have t2 := test_iv' g2
          by_cases g3 : iv s[p] = 35
          · have t3 := test_iv g3
            obtain ⟨hm, hC⟩ := COMM.out p n acc HL.out hp g3
            obtain ⟨m, hmm⟩ : ∃ m, p + run nl (s.data.toList.drop p) = m := ⟨_, rfl⟩
            rw [hmm] at hm hC
            have C := Lib.hid hC
            have HM := Lib.hid hmm
            clear g1 g2 g3 hC hmm
            go_wp2
            go_loop [6] (fun i => ∃ q : Nat, p ≤ q ∧ q ≤ s.size ∧ i = .int .i64 q ∧ q + run nl (s.data.toList.drop q) = m) (fun i => s.size - (intOf i).toNat)
            case atStart => exact ⟨p, Nat.le_refl _, h1, rfl, HM.out⟩
            case round =>
              obtain ⟨q, hq1, hq2, rfl, hq3⟩ := hrel
              have Q := Lib.hid hq3
              clear hq3
              by_cases hq : q < s.size
              · obtain ⟨r1, r2⟩ := AT.out q hq
                by_cases g : iv s[q] = 10
                · have u1 : ((s[q].toNat : Int) != 10) = false := by simpa [iv] using g
                  have E := Lib.hid (r2 (by simp [nl]; exact g))
                  clear r1 r2 g
                  have e : q = m := by have := Q.out; rw [E.out] at this; omega
                  subst e
                  go_wp2
                  go_roundw
                  case rel => exact ⟨q, n, acc, rfl, C.out, HR.out, HB.out⟩
                  case measure => simp [intOf]; omega
                · have u1 : ((s[q].toNat : Int) != 10) = true := by simpa [iv] using g
                  have E := Lib.hid (r1 (by simp [nl]; exact g))
                  clear r1 r2 g
                  go_wp2
                  go_round
                  case rel => exact ⟨q + 1, by omega, by omega, by go_num, by rw [← Q.out]; exact E.out.symm⟩
                  case measure => simp [intOf]; omega
              · have E := Lib.hid (REND.out q hq)
                have e : q = m := by have := Q.out; rw [E.out] at this; omega
                subst e
                go_wp2
                go_roundw
                case rel => exact ⟨q, n, acc, rfl, C.out, HR.out, HB.out⟩
                case measure => simp [intOf]; omega
          · have t3 := test_iv' g3
            have NB : Hid (NoBlank s[p]) := Lib.hid ⟨by omega, g3⟩
            clear g1 g2 g3
            have C := fun W => one_any s p W hp hs
            cases ho : one (s.data.toList.drop p) with
            | err c =>
              rw [ho] at C
              have E := Lib.hid (FAIL.out p n acc HL.out hp NB.out c ho)
              have hc := one_err ho
              have hc1 : (c != 0) = true := by simp; omega
              simp only [oneR] at C
              have CC := Lib.hid C
              clear C ho
              go_wp2_with fail
              refine (CC.out _).mono ?_
              rintro e w2 ⟨rfl, b2⟩
              have B2 := Lib.hid (HB.out.trans (b2.mono HB.out.size))
              have hsz2 := b2.size
              clear b2
              simp only [tokV]
              go_wp2
              go_ret3
              rw [E.out]
              refine ⟨rfl, ?_⟩
              have hB : w.heap.size ≤ w2.heap.size := by omega
              exact B2.out.alloc hB _
            | tok k t v m =>
              rw [ho] at C
              simp only [oneR] at C
              by_cases hn : n = 4000
              · subst hn
                have E := Lib.hid (FULL.out p acc HL.out hp NB.out k v t m ho)
                have CC := Lib.hid C
                clear C ho
                go_wp2_with fail
                refine (CC.out _).mono ?_
                rintro e w2 ⟨rfl, b2⟩
                have B2 := Lib.hid (HB.out.trans (b2.mono HB.out.size))
                have hsz2 := b2.size
                clear b2
                simp only [tokV]
                go_wp2
                go_ret3
                rw [E.out]
                refine ⟨rfl, ?_⟩
                have hB : w.heap.size ≤ w2.heap.size := by omega
                exact B2.out.alloc hB _
              · obtain ⟨⟨hm1, hm2⟩, hST⟩ := STEP.out p n acc HL.out hp NB.out k v t m ho (by omega)
                have ST := Lib.hid hST
                have hn3 : ((n : Int) == 4000) = false := by simp; omega
                have CC := Lib.hid C
                clear C ho hST
                go_wp2_with fail
                refine (CC.out _).mono ?_
                rintro e w2 ⟨rfl, b2⟩
                have B2 := Lib.hid (HB.out.trans (b2.mono HB.out.size))
                have R2 := Lib.hid (HR.out.after b2)
                have hsz2 := b2.size
                clear b2
                simp only [tokV]
                have hB : w.heap.size ≤ w2.heap.size := by omega
                have B3 := Lib.hid (B2.out.alloc hB (.cells #[.int .i64 k, .string (bs t), .int .i64 v, .int .i64 p] 37))
                have R3 : Hid (TRow w.heap.size (w2.alloc (.cells #[.int .i64 k, .string (bs t), .int .i64 v, .int .i64 p] 37)) (.slice pp n cap) n acc) := Lib.hid (R2.out.after ((Below.refl _ _).alloc (Nat.le_refl _) _))
                have hB4 : w.heap.size ≤ w2.heap.size + 1 := by omega
                go_wp2_with ((at_builtin; refine append_tok ⟨k, bs t, v, p⟩ (.tmp 58) (.tmp 60) rfl rfl w.heap.size _ n acc rfl R3.out ?cx ?cn ?cb B3.out ?_; (case cx => simp [go_sem]); (case cn => omega); (case cb => simp; omega); intro p' cap' w3 r3 b3; have R4 := Lib.hid r3; have B4 := Lib.hid b3; clear r3 b3))
                go_roundw
                case rel => exact ⟨p + m, n + 1, _, by go_num, ST.out, R4.out, B4.out⟩
                case measure => simp [intOf]; omega
    · have E := Lib.hid (DONE.out p n acc HL.out hp)
      go_wp2
      go_ret3
      rw [E.out]
      exact ⟨_, rfl, HR.out.at, HB.out⟩
end Go.Proofs.Ytgcojmjllpjefaa
