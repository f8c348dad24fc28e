/- The contract of Lex: the tokens of a text, or where it goes wrong. -/
import Derived.Test.YtgcojmjllpjefaaTokenAny
import Derived.Deep.DeepCutAuto
namespace Go.Proofs.Ytgcojmjllpjefaa
open Go.RowKit Go.Proofs.LexMath

/-- What a reading returns: the tokens as a slice, nil where it went wrong. -/
def LexRet (R : Res) (W : World) (e : Ending) (w' : World) : Prop :=
  match R with
  | .ok ts => ∃ v, e = .returned (.tuple #[v, .int .i64 0, .int .i64 0]) ∧ ToksAt w' v ts ∧ Below W.heap.size W w'
  | .err c p => e = .returned (.tuple #[.slice none 0 0, .int .i64 p, .int .i64 c]) ∧ Below W.heap.size W w'
/-- How far a text has been read: the tokens so far, and the place, behind blanks. -/
def LexAtP (s : ByteArray) (p n : Nat) (acc : List Tok) : Prop :=
  p ≤ s.size ∧ n ≤ 4000 ∧ acc.length = n ∧ skp false (s.data.toList.drop p) = 0 ∧ lex s.data.toList = (lexAt p n (s.data.toList.drop p)).pre acc
theorem skip_fits (s : ByteArray) (p : Nat) (h : p ≤ s.size) : p + skp false (s.data.toList.drop p) ≤ s.size := by
  have h1 := skp_le false (s.data.toList.drop p)
  rw [List.length_drop] at h1
  have : s.data.toList.length = s.size := rfl
  omega
theorem lex_start (s : ByteArray) : LexAtP s (skp false s.data.toList) 0 [] := by
  have h := skip_fits s 0 (Nat.zero_le _)
  rw [List.drop_zero, Nat.zero_add] at h
  refine ⟨h, by omega, rfl, skp_two false _, ?_⟩
  rw [Res.pre_nil, lex, lexAt_skp 0 0 s.data.toList, Nat.zero_add]
theorem lex_done (s : ByteArray) (p n : Nat) (acc : List Tok) (h : LexAtP s p n acc) (hp : ¬ p < s.size) : lex s.data.toList = .ok acc := by
  have e : s.data.toList.drop p = [] := List.drop_eq_nil_of_le (by show s.data.size ≤ _; have : s.size = s.data.size := rfl; omega)
  rw [h.2.2.2.2, e, lexAt_nil]
  simp [Res.pre]
theorem lex_nb (s : ByteArray) (p n : Nat) (acc : List Tok) (h : LexAtP s p n acc) (hp : p < s.size) : NoBlank s[p] := by
  have := h.2.2.2.1
  rw [drop_at s p hp] at this
  exact skp_head this
theorem lex_fail (s : ByteArray) (p n : Nat) (acc : List Tok) (h : LexAtP s p n acc) (hp : p < s.size) (c : Int) (ho : one (s.data.toList.drop p) = .err c) : lex s.data.toList = .err c p := by
  have hb := lex_nb s p n acc h hp
  rw [drop_at s p hp] at ho
  rw [h.2.2.2.2, drop_at s p hp, lexAt_err p n hb ho]
  rfl
theorem lex_full (s : ByteArray) (p : Nat) (acc : List Tok) (h : LexAtP s p 4000 acc) (hp : p < s.size) (k v : Int) (t : Bs) (m : Nat) (ho : one (s.data.toList.drop p) = .tok k t v m) : lex s.data.toList = .err 33 p := by
  have hb := lex_nb s p 4000 acc h hp
  rw [drop_at s p hp] at ho
  rw [h.2.2.2.2, drop_at s p hp, lexAt_many p hb ho]
  rfl
theorem lex_step (s : ByteArray) (p n : Nat) (acc : List Tok) (h : LexAtP s p n acc) (hp : p < s.size) (k v : Int) (t : Bs) (m : Nat) (ho : one (s.data.toList.drop p) = .tok k t v m) (hn : n < 4000) :
    (1 ≤ m ∧ p + m ≤ s.size) ∧ LexAtP s (p + m + skp false (s.data.toList.drop (p + m))) (n + 1) (acc ++ [⟨k, bs t, v, (p : Int)⟩]) := by
  have hb := lex_nb s p n acc h hp
  have hs := one_size ho
  rw [List.length_drop] at hs
  have hl : s.data.toList.length = s.size := rfl
  have hpm : p + m ≤ s.size := by omega
  obtain ⟨h1, h2, h3, h4, h5⟩ := h
  refine ⟨⟨hs.1, hpm⟩, skip_fits s _ hpm, by omega, by simp; omega, ?_, ?_⟩
  · rw [← List.drop_drop]
    exact skp_two false _
  · rw [drop_at s p hp] at ho
    rw [h5, drop_at s p hp, lexAt_tok p n hb ho (by omega), Res.pre_pre, ← drop_at s p hp, List.drop_drop, lexAt_skp (p + m) (n + 1), List.drop_drop]
theorem ret_err {p q c d : Int} (h : p = q) (h' : c = d) : Ending.returned (.tuple #[.slice none 0 0, .int .i64 p, .int .i64 c]) = .returned (.tuple #[.slice none 0 0, .int .i64 q, .int .i64 d]) := by rw [h, h']
set_option maxRecDepth 100000 in
set_option maxHeartbeats 1000000 in
theorem lex_any (s : ByteArray) (w : World) (hs : s.size ≤ 100000000) : Calls Try.prog 11 #[.string s] w (LexRet (lex s.data.toList) w) := by
  have DONE := Lib.hid (lex_done s)
  have FAIL := Lib.hid (lex_fail s)
  have FULL := Lib.hid (lex_full s)
  have STEP := Lib.hid (lex_step s)
  have START := Lib.hid (lex_start s)
  have h0 := skip_fits s 0 (Nat.zero_le _)
  have S0 := fun W => skip_any s 0 W (Nat.zero_le _) (by omega)
  rw [List.drop_zero, Nat.zero_add] at h0 S0
  generalize hR : lex s.data.toList = R at *
  clear hR
  generalize skp false s.data.toList = a0 at *
  have SS := Lib.hid S0
  clear S0
  go_enter Try.func11, Try.ntmps11
  go_wp2_with fail
  refine (SS.out _).mono ?_
  rintro e w1 ⟨rfl, b1⟩
  go_wp2
  go_loopw [5, 6] (fun l i wr => ∃ (p n : Nat) (acc : List Tok), i = .int .i64 p ∧ LexAtP s p n acc ∧ TRow w.heap.size wr l n acc ∧ Below w.heap.size w wr) (fun _ i _ => s.size - (intOf i).toNat)
  case atStart => exact ⟨a0, 0, [], by go_num, START.out, TRow.nil _ _, b1⟩
  case round =>
    obtain ⟨wo, hwo⟩ : ∃ wo : World, wo = wr := ⟨_, rfl⟩
    subst hwo
    obtain ⟨p, n, acc, rfl, hL, hR, hB⟩ := hrel
    obtain ⟨pp, cap, rfl⟩ := hR.form
    have hL' := hL
    obtain ⟨h1, h2, -⟩ := hL'
    have HL := Lib.hid hL
    have HR := Lib.hid hR
    have hsz := hB.size
    have HB := Lib.hid hB
    clear hL hR hB
    by_cases hp : p < s.size
    · have C := fun W => token_any s p W hp hs
      cases ho : one (s.data.toList.drop p) with
      | err c =>
        rw [ho] at C
        have E := Lib.hid (FAIL.out p n acc HL.out hp c ho)
        have hc := one_err ho
        have hc0 : (c == 0) = false := by simp; omega
        have hc1 : (c != 0) = true := by simp; omega
        simp only [oneV] at C
        have CC := Lib.hid C
        clear C ho
        go_wp2_with fail
        refine (CC.out _).mono ?_
        rintro e w2 ⟨rfl, b2⟩
        have B2 := Lib.hid (HB.out.trans (b2.mono HB.out.size))
        have hsz2 := b2.size
        clear b2
        simp only [tokV]
        go_wp2
        go_ret3
        rw [E.out]
        refine ⟨rfl, ?_⟩
        have hB : w.heap.size ≤ w2.heap.size := by omega
        exact B2.out.alloc hB _
      | tok k t v m =>
        rw [ho] at C
        simp only [oneV] at C
        by_cases hn : n = 4000
        · subst hn
          have E := Lib.hid (FULL.out p acc HL.out hp k v t m ho)
          have CC := Lib.hid C
          clear C ho
          go_wp2_with fail
          refine (CC.out _).mono ?_
          rintro e w2 ⟨rfl, b2⟩
          have B2 := Lib.hid (HB.out.trans (b2.mono HB.out.size))
          have hsz2 := b2.size
          clear b2
          simp only [tokV]
          go_wp2
          go_ret3
          rw [E.out]
          refine ⟨rfl, ?_⟩
          have hB : w.heap.size ≤ w2.heap.size := by omega
          exact B2.out.alloc hB _
        · obtain ⟨⟨hm1, hm2⟩, hST⟩ := STEP.out p n acc HL.out hp k v t m ho (by omega)
          have ST := Lib.hid hST
          have hn3 : ((n : Int) == 4000) = false := by simp; omega
          have SK := fun W => skip_any s (p + m) W hm2 (by omega)
          have hq := skip_fits s (p + m) hm2
          have hq2 : p + m ≤ p + m + skp false (s.data.toList.drop (p + m)) := Nat.le_add_right _ _
          clear hST
          generalize p + m + skp false (s.data.toList.drop (p + m)) = q at *
          have SQ := Lib.hid SK
          have CC := Lib.hid C
          clear C ho SK
          go_wp2_with fail
          refine (CC.out _).mono ?_
          rintro e w2 ⟨rfl, b2⟩
          have B2 := Lib.hid (HB.out.trans (b2.mono HB.out.size))
          have R2 := Lib.hid (HR.out.after b2)
          have hsz2 := b2.size
          clear b2
          simp only [tokV]
          go_upto_region 10 with (fail)
          have hB : w.heap.size ≤ w2.heap.size := by omega
          have B3 := Lib.hid (B2.out.alloc hB (.cells #[.int .i64 k, .string (bs t), .int .i64 v, .int .i64 p] 37))
          have R3 : Hid (TRow w.heap.size (w2.alloc (.cells #[.int .i64 k, .string (bs t), .int .i64 v, .int .i64 p] 37)) (.slice pp n cap) n acc) := Lib.hid (R2.out.after ((Below.refl _ _).alloc (Nat.le_refl _) _))
          have hB4 : w.heap.size ≤ w2.heap.size + 1 := by omega
          go_wp2_with ((refine append_tok ⟨k, bs t, v, p⟩ (.tmp 36) (.tmp 38) rfl rfl w.heap.size _ n acc rfl R3.out ?cx ?cn ?cb B3.out ?_; (case cx => simp [go_sem]); (case cn => omega); (case cb => simp; omega); intro p' cap' w3 r3 b3; have R4 := Lib.hid r3; have B4 := Lib.hid b3; clear r3 b3))
          refine (SQ.out _).mono ?_
          rintro e w4 ⟨rfl, b4⟩
          have B5 := Lib.hid (B4.out.trans (b4.mono B4.out.size))
          have R5 := Lib.hid (R4.out.after b4)
          clear b4
          go_wp2
          go_roundw
          case rel => exact ⟨q, n + 1, _, by go_num, ST.out, R5.out, B5.out⟩
          case measure => simp [intOf]; omega
    · have E := Lib.hid (DONE.out p n acc HL.out hp)
      go_wp2
      go_ret3
      rw [E.out]
      exact ⟨_, rfl, HR.out.at, HB.out⟩
end Go.Proofs.Ytgcojmjllpjefaa
