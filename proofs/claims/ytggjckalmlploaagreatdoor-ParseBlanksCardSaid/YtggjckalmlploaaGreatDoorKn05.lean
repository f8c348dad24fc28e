/- Texts of this seat, one behind the other: LxLexC, LxLexD, LxLexE. -/
import Derived.Test.YtggjckalmlploaaGreatDoorKn04
/- The mathematics of tokens, third part: the steps of a reading, a line feed between two texts, and tokens that are shown and read again. -/
namespace Go.Proofs.LexMath
open Go.Proofs.YtggjckalmlploaaGreatDoor.Lx Go.RowKit

theorem skp_comment (l : Bs) : skp true l = run nl l + skp false (l.drop (run nl l)) := by
  induction l with
  | nil => rfl
  | cons c r ih =>
    by_cases h : iv c = 10
    · rw [run_no nl c r (by simp [nl, h])]
      simp [skp, h]
    · rw [run_yes nl c r (by simp [nl, h])]
      simp only [skp, h, if_false, List.drop_succ_cons]
      omega
theorem lexAt_blank (p n : Nat) (c : UInt8) (r : Bs) (h : iv c = 32 ∨ iv c = 10) : lexAt p n (c :: r) = lexAt (p + 1) n r := by
  rw [lexAt_skp p n (c :: r), lexAt_skp (p + 1) n r]
  simp only [skp, h, if_true, List.drop_succ_cons]
  congr 1
  omega
theorem lexAt_comment (p n : Nat) (c : UInt8) (r : Bs) (h : iv c = 35) : lexAt p n (c :: r) = lexAt (p + run nl (c :: r)) n ((c :: r).drop (run nl (c :: r))) := by
  have e : skp false (c :: r) = skp true r + 1 := by simp [skp, h]
  rw [lexAt_skp p n (c :: r), lexAt_skp (p + run nl (c :: r)) n, run_yes nl c r (by simp [nl, h]), e]
  simp only [List.drop_succ_cons, List.drop_drop]
  rw [skp_comment]
  congr 1
  omega
def NoBlank (c : UInt8) : Prop := ¬ (iv c = 32 ∨ iv c = 10) ∧ ¬ iv c = 35
theorem skp_zero {c : UInt8} (r : Bs) (h : NoBlank c) : skp false (c :: r) = 0 := by simp [skp, h.1, h.2]
theorem skp_head {c : UInt8} {r : Bs} (h : skp false (c :: r) = 0) : NoBlank c := by
  unfold NoBlank
  by_cases a : iv c = 32 ∨ iv c = 10
  · simp [skp, a] at h
  · by_cases b : iv c = 35
    · simp [skp, b] at h
    · exact ⟨a, b⟩
theorem lexAt_err (p n : Nat) {c : UInt8} {r : Bs} {e : Int} (h : NoBlank c) (ho : one (c :: r) = .err e) : lexAt p n (c :: r) = .err e p := by
  simp [lexAt, lexF, skp_zero r h, ho]
theorem lexAt_many (p : Nat) {c : UInt8} {r t : Bs} {k v : Int} {m : Nat} (h : NoBlank c) (ho : one (c :: r) = .tok k t v m) : lexAt p 4000 (c :: r) = .err 33 p := by
  simp [lexAt, lexF, skp_zero r h, ho]
theorem lexAt_tok (p n : Nat) {c : UInt8} {r t : Bs} {k v : Int} {m : Nat} (h : NoBlank c) (ho : one (c :: r) = .tok k t v m) (hn : ¬ n = 4000) :
    lexAt p n (c :: r) = (lexAt (p + m) (n + 1) ((c :: r).drop m)).pre [⟨k, bs t, v, (p : Int)⟩] := by
  have hs := one_size ho
  simp only [List.length_cons] at hs
  unfold lexAt
  rw [lexF_more (((c :: r).drop m).length + 1) ((c :: r).length) _ _ _ (by omega) (by simp; omega)]
  simp only [lexF, skp_zero r h, List.drop_zero, ho, hn, if_false, Nat.add_zero]
/-- Cases of a text at a place. -/
theorem lex_cases (p n : Nat) (l : Bs) (M : Nat → Nat → Bs → Res → Prop) (hnil : ∀ p n, M p n [] (.ok []))
    (hblank : ∀ p n c r, (iv c = 32 ∨ iv c = 10) → M (p + 1) n r (lexAt (p + 1) n r) → M p n (c :: r) (lexAt (p + 1) n r))
    (hcom : ∀ p n c r k, iv c = 35 → k = run nl (c :: r) → M (p + k) n ((c :: r).drop k) (lexAt (p + k) n ((c :: r).drop k)) → M p n (c :: r) (lexAt (p + k) n ((c :: r).drop k)))
    (herr : ∀ p n c r e, NoBlank c → one (c :: r) = .err e → M p n (c :: r) (.err e p))
    (hmany : ∀ p c r k t v m, NoBlank c → one (c :: r) = .tok k t v m → M p 4000 (c :: r) (.err 33 p))
    (htok : ∀ p n c r k t v m, NoBlank c → one (c :: r) = .tok k t v m → ¬ n = 4000 → M (p + m) (n + 1) ((c :: r).drop m) (lexAt (p + m) (n + 1) ((c :: r).drop m)) →
      M p n (c :: r) ((lexAt (p + m) (n + 1) ((c :: r).drop m)).pre [⟨k, bs t, v, (p : Int)⟩])) : M p n l (lexAt p n l) := by
  obtain ⟨f, hf⟩ : ∃ f, l.length ≤ f := ⟨_, Nat.le_refl _⟩
  induction f generalizing p n l with
  | zero =>
    obtain rfl : l = [] := List.eq_nil_of_length_eq_zero (by omega)
    exact hnil p n
  | succ f ih =>
    rcases l with _ | ⟨c, r⟩
    · exact hnil p n
    · simp only [List.length_cons] at hf
      by_cases h1 : iv c = 32 ∨ iv c = 10
      · rw [lexAt_blank p n c r h1]
        exact hblank p n c r h1 (ih _ _ _ (by omega))
      · by_cases h2 : iv c = 35
        · rw [lexAt_comment p n c r h2]
          refine hcom p n c r _ h2 rfl (ih _ _ _ ?_)
          have := run_yes nl c r (by simp [nl, h2])
          rw [List.length_drop, List.length_cons]
          omega
        · have hb : NoBlank c := ⟨h1, h2⟩
          cases ho : one (c :: r) with
          | err e => rw [lexAt_err p n hb ho]; exact herr p n c r e hb ho
          | tok k t v m =>
            by_cases h4 : n = 4000
            · subst h4
              rw [lexAt_many p hb ho]
              exact hmany p c r k t v m hb ho
            · rw [lexAt_tok p n hb ho h4]
              have hs := one_size ho
              refine htok p n c r k t v m hb ho h4 (ih _ _ _ ?_)
              simp only [List.length_drop, List.length_cons] at hs ⊢
              omega

theorem chr_stop (l x : Bs) (h : l ≠ []) : chr (l ++ 10 :: x) = chr l := by
  have e10 : iv 10 = 10 := rfl
  rcases l with _ | ⟨c, r⟩
  · exact absurd rfl h
  · by_cases hc : iv c = 92
    · rcases r with _ | ⟨d, r⟩
      · simp [chr, hc, e10]
      · simp only [List.cons_append, chr, hc, if_true]
        split
        · rfl
        · split
          · rfl
          · split
            · rcases r with _ | ⟨a, r⟩
              · rcases x with _ | ⟨y, x⟩
                · rfl
                · have : hexv 10 = -1 := rfl
                  simp [e10, this]
              · rcases r with _ | ⟨b, r⟩
                · have : hexv 10 = -1 := rfl
                  simp [e10, this]
                · rfl
            · rfl
    · simp [chr, hc]
theorem str_stop (l x : Bs) : str (l ++ 10 :: x) = str l := by
  obtain ⟨f, hf⟩ : ∃ f, l.length ≤ f := ⟨_, Nat.le_refl _⟩
  induction f generalizing l with
  | zero =>
    obtain rfl : l = [] := List.eq_nil_of_length_eq_zero (by omega)
    have e10 : iv 10 = 10 := rfl
    rw [str_nil, List.nil_append]
    exact str_bad _ (by simp [chr, e10, pln]) (by intro c r e; injection e with e1 e2; rw [← e1, e10]; omega)
  | succ f ih =>
    rcases l with _ | ⟨c, r⟩
    · have e10 : iv 10 = 10 := rfl
      rw [str_nil, List.nil_append]
      exact str_bad _ (by simp [chr, e10, pln]) (by intro c r e; injection e with e1 e2; rw [← e1, e10]; omega)
    · simp only [List.length_cons] at hf
      by_cases h34 : iv c = 34
      · rw [List.cons_append, str_end c _ h34, str_end c _ h34]
      · have hh : ∀ x' c' r', (c :: r) ++ x' = c' :: r' → ¬ iv c' = 34 := by intro x' c' r' e; injection e with e1 e2; rw [← e1]; exact h34
        have hst := chr_stop (c :: r) x (by simp)
        have hh0 := hh []
        rw [List.append_nil] at hh0
        cases hc : chr (c :: r) with
        | none => rw [str_bad _ hc hh0, str_bad _ (hst.trans hc) (hh _)]
        | some bn =>
          obtain ⟨b, n⟩ := bn
          have hs := chr_size hc
          rw [str_step hc hh0, str_step (hst.trans hc) (hh _), List.drop_append_of_le_length hs.2, ih _ (by rw [List.length_drop]; simp only [List.length_cons] at hs ⊢; omega)]
theorem take_run (p : Int → Bool) (r x : Bs) (h : p 10 = false) : run p (r ++ 10 :: x) = run p r ∧ (r ++ 10 :: x).take (run p r) = r.take (run p r) :=
  ⟨run_stop p r _ (.inr ⟨10, x, rfl, h⟩), List.take_append_of_le_length (run_le p r)⟩
theorem one_stop (c : UInt8) (r x : Bs) : one ((c :: r) ++ 10 :: x) = one (c :: r) := by
  obtain ⟨a1, a2⟩ := take_run tl r x rfl
  obtain ⟨b1, b2⟩ := take_run dgt r x rfl
  obtain ⟨c1, c2⟩ := take_run opr r x rfl
  have h59 : ((r ++ 10 :: x).head? = some 59) = (r.head? = some 59) := by
    cases r <;> simp
  simp only [List.cons_append, one, a1, a2, b1, b2, c1, c2, str_stop, h59]
/-- A line feed between two texts. -/
theorem lex_join (b : Bs) (p n : Nat) (a : Bs) :
    lexAt p n (a ++ 10 :: b) = match lexAt p n a with
      | .err e q => .err e q
      | .ok ts => (lexAt (p + a.length + 1) (n + ts.length) b).pre ts := by
  refine lex_cases p n a (fun p n a R => lexAt p n (a ++ 10 :: b) = match R with
      | .err e q => .err e q
      | .ok ts => (lexAt (p + a.length + 1) (n + ts.length) b).pre ts) ?_ ?_ ?_ ?_ ?_ ?_
  · intro p n
    rw [List.nil_append, lexAt_blank p n 10 b (.inr rfl)]
    simp [Res.pre_nil]
  · intro p n c r h ih
    rw [List.cons_append, lexAt_blank p n c _ h, ih]
    simp only [List.length_cons, show p + 1 + r.length + 1 = p + (r.length + 1) + 1 by omega]
  · intro p n c r k h hk ih
    have hkl := run_le nl (c :: r)
    rw [← hk] at hkl
    have e : run nl ((c :: r) ++ 10 :: b) = k := by rw [hk]; exact run_stop nl _ _ (.inr ⟨10, b, rfl, rfl⟩)
    rw [List.cons_append] at e ⊢
    rw [lexAt_comment p n c _ h, e, ← List.cons_append, List.drop_append_of_le_length hkl, ih]
    have : p + k + ((c :: r).drop k).length + 1 = p + (c :: r).length + 1 := by rw [List.length_drop]; omega
    simp only [this]
  · intro p n c r e h ho
    have h2 := one_stop c r b
    rw [ho] at h2
    exact lexAt_err p n h h2
  · intro p c r k t v m h ho
    have h2 := one_stop c r b
    rw [ho] at h2
    exact lexAt_many p h h2
  · intro p n c r k t v m h ho hn ih
    have hs := one_size ho
    have h2 := one_stop c r b
    rw [ho] at h2
    rw [List.cons_append] at h2 ⊢
    rw [lexAt_tok p n h h2 hn, ← List.cons_append, List.drop_append_of_le_length hs.2, ih]
    cases hl : lexAt (p + m) (n + 1) ((c :: r).drop m) with
    | err e q => rfl
    | ok ts =>
      have e1 : p + m + ((c :: r).drop m).length + 1 = p + (c :: r).length + 1 := by rw [List.length_drop]; omega
      simp only [e1, show n + 1 + ts.length = n + (ts.length + 1) by omega]
      rw [Res.pre_pre]
      rfl
/-- The place and the count at the beginning don't matter. -/
def Alike (p : Nat) : Res → Res → Prop
  | .ok a, .ok b => sameL a b
  | .err e q, .err e' _ => e = e' ∧ p ≤ q
  | _, _ => False
theorem lex_shift (p n p' n' : Nat) (l : Bs) (h : n + l.length ≤ 4000) (h' : n' + l.length ≤ 4000) : Alike p (lexAt p n l) (lexAt p' n' l) := by
  have key := lex_cases p n l (fun p n l R => ∀ p' n', n + l.length ≤ 4000 → n' + l.length ≤ 4000 → Alike p R (lexAt p' n' l)) ?_ ?_ ?_ ?_ ?_ ?_
  · exact key p' n' h h'
  · intro p n p' n' _ _
    rw [lexAt_nil]; rfl
  · intro p n c r hc ih p' n' h1 h2
    simp only [List.length_cons] at h1 h2
    rw [lexAt_blank p' n' c r hc]
    have := ih (p' + 1) n' (by omega) (by omega)
    revert this
    cases lexAt (p + 1) n r <;> cases lexAt (p' + 1) n' r <;> simp [Alike]
    intro a b; exact ⟨a, by omega⟩
  · intro p n c r k hc hk ih p' n' h1 h2
    rw [lexAt_comment p' n' c r hc, ← hk]
    have := ih (p' + k) n' (by rw [List.length_drop]; omega) (by rw [List.length_drop]; omega)
    revert this
    cases lexAt (p + k) n ((c :: r).drop k) <;> cases lexAt (p' + k) n' ((c :: r).drop k) <;> simp [Alike]
    intro a b; exact ⟨a, by omega⟩
  · intro p n c r e hb ho p' n' h1 h2
    rw [lexAt_err p' n' hb ho]
    exact ⟨rfl, Nat.le_refl _⟩
  · intro p c r k t v m hb ho p' n' h1 h2
    simp only [List.length_cons] at h1
    omega
  · intro p n c r k t v m hb ho hn ih p' n' h1 h2
    have hs := one_size ho
    simp only [List.length_cons] at h1 h2 hs
    rw [lexAt_tok p' n' hb ho (by omega)]
    have := ih (p' + m) (n' + 1) (by rw [List.length_drop, List.length_cons]; omega) (by rw [List.length_drop, List.length_cons]; omega)
    revert this
    cases lexAt (p + m) (n + 1) ((c :: r).drop m) <;> cases lexAt (p' + m) (n' + 1) ((c :: r).drop m) <;> simp [Alike, Res.pre, sameL, Tok.core]
    intro a b; exact ⟨a, by omega⟩
end Go.Proofs.LexMath
/- The mathematics of tokens, fourth part: which tokens may be, their words, and that what is shown is read again. -/
namespace Go.Proofs.LexMath
open Go.Proofs.YtggjckalmlploaaGreatDoor.Lx Go.RowKit

def isw (first rest : Int → Bool) : Bs → Bool
  | [] => false
  | c :: r => first (iv c) && r.all fun d => rest (iv d)
def Tok.bytes (t : Tok) : Bs := t.text.data.toList
def rightB (t : Tok) : Bool :=
  decide (0 ≤ t.at_) &&
  (if t.kind = 1 then decide (t.num = 0) && isw low tl t.bytes && !key t.bytes
   else if t.kind = 2 then decide (t.num = 0) && isw upp tl t.bytes
   else if t.kind = 3 then t.bytes.isEmpty && decide (wr t.num = t.num)
   else if t.kind = 4 then decide (t.num = 0) && decide (t.bytes.length ≤ 200)
   else if t.kind = 5 then decide (t.num = 0) && isw opr opr t.bytes && !key t.bytes
   else if t.kind = 6 then decide (t.num = 0) && key t.bytes
   else false)
def wordL (t : Tok) : Bs := if t.kind = 3 then shwL t.num else if t.kind = 4 then quote t.bytes else t.bytes
def rest (ts : List Tok) : Bs := ts.flatMap fun u => 32 :: wordL u
theorem cls_opr {r : Int} (h : opr r = true) : ltr r = false ∧ ¬ (r = 126 ∨ dgt r = true) ∧ ¬ r = 34 ∧ ¬ r = 32 ∧ ¬ r = 10 ∧ ¬ r = 35 := by
  simp [opr] at h
  simp [ltr, low, upp, dgt]
  omega
end Go.Proofs.LexMath
/- The mathematics of tokens, fifth part: what is read may be, stands where it says, and is as much as the text at most. -/
namespace Go.Proofs.LexMath
open Go.Proofs.YtggjckalmlploaaGreatDoor.Lx Go.RowKit

theorem str_len {l t : Bs} {m : Nat} (h : str l = some (t, m)) : t.length ≤ l.length := by
  obtain ⟨k, hk⟩ : ∃ k, l.length ≤ k := ⟨_, Nat.le_refl _⟩
  induction k generalizing l t m with
  | zero =>
    obtain rfl : l = [] := List.eq_nil_of_length_eq_zero (by omega)
    cases h
  | succ k ih =>
    rcases l with _ | ⟨c, r⟩
    · cases h
    · by_cases h34 : iv c = 34
      · rw [str_end c r h34] at h
        simp at h
        rw [h.1]; simp
      · have hh : ∀ c' r', c :: r = c' :: r' → ¬ iv c' = 34 := by intro c' r' e; injection e with e1 e2; rw [← e1]; exact h34
        cases hc : chr (c :: r) with
        | none => rw [str_bad _ hc hh] at h; cases h
        | some bn =>
          obtain ⟨b, n⟩ := bn
          have hs := chr_size hc
          rw [str_step hc hh] at h
          cases hq : str ((c :: r).drop n) with
          | none => rw [hq] at h; cases h
          | some x =>
            obtain ⟨t', m'⟩ := x
            rw [hq] at h
            simp at h
            have h2 := ih hq (by rw [List.length_drop]; simp only [List.length_cons] at hk ⊢; omega)
            rw [List.length_drop] at h2
            rw [← h.1]
            simp only [List.length_cons] at h2 ⊢
            omega
theorem one_right {l t : Bs} {k v : Int} {m : Nat} (h : one l = .tok k t v m) (at_ : Int) (ha : 0 ≤ at_) : rightB ⟨k, bs t, v, at_⟩ = true ∧ t.length ≤ l.length := by
  have hb : ∀ (k' v' : Int) (t' : Bs), Tok.bytes ⟨k', bs t', v', at_⟩ = t' := fun _ _ t' => bs_list t'
  rcases l with _ | ⟨c, r⟩
  · cases h
  · have tk : ∀ p : Int → Bool, (c :: r.take (run p r)).length ≤ (c :: r).length := by intro p; simp; omega
    simp only [one] at h
    split at h
    · rename_i hc
      have hm := run_mem tl r
      unfold wrd at h
      injection h with h1 h2 h3 h4
      subst h2 h3
      refine ⟨?_, tk _⟩
      rw [← h1]
      unfold rightB
      rw [hb]
      simp only [decide_eq_true ha, Bool.true_and]
      by_cases hk : key (c :: r.take (run tl r)) = true
      · simp [hk]
      · have hk' : key (c :: r.take (run tl r)) = false := by simpa using hk
        by_cases hl : low (iv c) = true
        · simp only [hk', hl, if_true, Bool.false_eq_true, if_false, isw, Bool.true_and, Bool.not_false, Bool.and_true, decide_true, List.all_eq_true]
          exact hm
        · have hl' : low (iv c) = false := by simpa using hl
          have hu : upp (iv c) = true := by simpa [ltr, hl'] using hc
          simp only [hk', hl', hu, Bool.false_eq_true, if_false, isw, Bool.true_and, decide_true, if_neg (show ¬ (2 : Int) = 1 by omega), if_true, List.all_eq_true]
          exact hm
    · split at h
      · split at h
        · rename_i v' hv
          injection h with h1 h2 h3 h4
          subst h1 h2 h3
          refine ⟨?_, by simp⟩
          have hr := (num_some hv).1
          unfold rightB
          rw [hb]
          simp [ha, wr_of _ hr]
        · cases h
      · split at h
        · split at h
          · rename_i hs
            split at h
            · rename_i hl
              injection h with h1 h2 h3 h4
              subst h1 h2 h3
              refine ⟨?_, ?_⟩
              · unfold rightB
                rw [hb]
                simp [ha, hl]
              · have := str_len hs
                simp; omega
            · cases h
          · cases h
        · split at h
          · rename_i hc
            have hm := run_mem opr r
            unfold wrd at h
            injection h with h1 h2 h3 h4
            subst h2 h3
            refine ⟨?_, tk _⟩
            rw [← h1]
            unfold rightB
            rw [hb]
            simp only [decide_eq_true ha, Bool.true_and]
            by_cases hk : key (c :: r.take (run opr r)) = true
            · simp [hk]
            · have hk' : key (c :: r.take (run opr r)) = false := by simpa using hk
              simp only [hk', hc, if_true, Bool.false_eq_true, if_false, isw, Bool.true_and, Bool.not_false, Bool.and_true, decide_true, List.all_eq_true, if_neg (show ¬ (5 : Int) = 1 by omega), if_neg (show ¬ (5 : Int) = 2 by omega), if_neg (show ¬ (5 : Int) = 3 by omega), if_neg (show ¬ (5 : Int) = 4 by omega)]
              exact hm
          · split at h
            · rename_i hc
              injection h with h1 h2 h3 h4
              subst h1 h2 h3
              refine ⟨?_, by simp⟩
              unfold rightB
              rw [hb]
              have : key [c] = true := by
                have e40 : iv 40 = 40 := rfl
                have e41 : iv 41 = 41 := rfl
                have e95 : iv 95 = 95 := rfl
                rcases hc with g | g | g
                · rw [show c = 40 from iv_inj g]; rfl
                · rw [show c = 41 from iv_inj g]; rfl
                · rw [show c = 95 from iv_inj g]; rfl
              simp [ha, this]
            · split at h
              · rename_i hc
                injection h with h1 h2 h3 h4
                subst h1 h2 h3
                refine ⟨?_, ?_⟩
                · unfold rightB
                  rw [hb]
                  have : key [59, 59] = true := rfl
                  simp [ha, this]
                · rcases r with _ | ⟨d, r⟩
                  · simp at hc
                  · simp
              · cases h
/-- Tokens that may be, one behind the other from a place on, and ahead of another one. -/
def Line (p q : Nat) (L : Nat) : List Tok → Prop
  | [] => True
  | t :: ts => (rightB t = true ∧ (p : Int) ≤ t.at_ ∧ t.at_ < (q : Int) ∧ t.bytes.length ≤ L) ∧ Line (t.at_.toNat + 1) q L ts
theorem Line.more {p p' q L L' : Nat} (hp : p' ≤ p) (hL : L ≤ L') : ∀ {ts : List Tok}, Line p q L ts → Line p' q L' ts
  | [], _ => trivial
  | _ :: _, ⟨⟨h1, h2, h3, h4⟩, h5⟩ => ⟨⟨h1, by omega, h3, by omega⟩, Line.more (Nat.le_refl _) hL h5⟩
def Lined (p n : Nat) (l : Bs) : Res → Prop
  | .ok ts => Line p (p + l.length) l.length ts ∧ ts.length ≤ l.length ∧ n + ts.length ≤ 4000
  | .err e q => p ≤ q ∧ q < p + l.length ∧ 30 ≤ e ∧ e ≤ 33
theorem one_err {l : Bs} {e : Int} (h : one l = .err e) : 30 ≤ e ∧ e ≤ 32 := by
  unfold one at h
  split at h
  · injection h with h; omega
  · simp only [wrd] at h
    repeat' split at h
    all_goals first
      | (injection h with h; omega)
      | cases h
theorem lex_line (p n : Nat) (l : Bs) (hn : n ≤ 4000) : Lined p n l (lexAt p n l) := by
  refine lex_cases p n l (fun p n l R => n ≤ 4000 → Lined p n l R) ?_ ?_ ?_ ?_ ?_ ?_ hn
  · intro p n hn; exact ⟨trivial, Nat.le_refl _, hn⟩
  · intro p n c r hc ih hn
    have := ih hn
    revert this
    cases lexAt (p + 1) n r with
    | ok ts =>
      rintro ⟨h1, h2, h3⟩
      refine ⟨?_, by simp; omega, h3⟩
      rw [show p + 1 + r.length = p + (c :: r).length by simp; omega] at h1
      exact h1.more (by omega) (by simp)
    | err e q => rintro ⟨h1, h2, h3⟩; exact ⟨by omega, by simp; omega, h3⟩
  · intro p n c r k hc hk ih hn
    have hkl := run_le nl (c :: r)
    rw [← hk] at hkl
    have := ih hn
    revert this
    have hl : ((c :: r).drop k).length = (c :: r).length - k := List.length_drop
    cases lexAt (p + k) n ((c :: r).drop k) with
    | ok ts =>
      rintro ⟨h1, h2, h3⟩
      rw [hl] at h1 h2
      refine ⟨?_, by omega, h3⟩
      rw [show p + k + ((c :: r).length - k) = p + (c :: r).length by omega] at h1
      exact h1.more (by omega) (by omega)
    | err e q =>
      rintro ⟨h1, h2, h3⟩
      rw [hl] at h2
      exact ⟨by omega, by omega, h3⟩
  · intro p n c r e hb ho hn
    have := one_err ho
    exact ⟨Nat.le_refl _, by simp, by omega, by omega⟩
  · intro p c r k t v m hb ho hn
    exact ⟨Nat.le_refl _, by simp, by omega, by omega⟩
  · intro p n c r k t v m hb ho hn ih hn'
    have hs := one_size ho
    have hr := one_right ho (p : Int) (by omega)
    have := ih (by omega)
    revert this
    have hl : ((c :: r).drop m).length = (c :: r).length - m := List.length_drop
    cases lexAt (p + m) (n + 1) ((c :: r).drop m) with
    | ok ts =>
      rintro ⟨h1, h2, h3⟩
      rw [hl] at h1 h2
      refine ⟨⟨⟨hr.1, Int.le_refl _, by simp only [List.length_cons]; omega, by simpa [Tok.bytes, bs_list] using hr.2⟩, ?_⟩, ?_, ?_⟩
      · rw [show p + m + ((c :: r).length - m) = p + (c :: r).length by omega] at h1
        exact h1.more (by simp; omega) (by omega)
      · simp only [List.length_append, List.length_cons, List.length_nil] at hs h2 ⊢; omega
      · simp only [List.length_append, List.length_cons, List.length_nil]; omega
    | err e q =>
      rintro ⟨h1, h2, h3⟩
      rw [hl] at h2
      exact ⟨by omega, by omega, h3⟩
end Go.Proofs.LexMath
