/- The mathematics of tokens, fifth part: what is read may be, stands where it says, and is as much as the text at most. -/
import Derived.Test.YtgcojmjllpjefaaLexD
namespace Go.Proofs.LexMath
open Go.Proofs.Ytgcojmjllpjefaa Go.RowKit

theorem str_len {l t : Bs} {m : Nat} (h : str l = some (t, m)) : t.length ≤ l.length := by
  obtain ⟨k, hk⟩ : ∃ k, l.length ≤ k := ⟨_, Nat.le_refl _⟩
  induction k generalizing l t m with
  | zero =>
    obtain rfl : l = [] := List.eq_nil_of_length_eq_zero (by omega)
    cases h
  | succ k ih =>
    rcases l with _ | ⟨c, r⟩
    · cases h
    · by_cases h34 : iv c = 34
      · rw [str_end c r h34] at h
        simp at h
        rw [h.1]; simp
      · have hh : ∀ c' r', c :: r = c' :: r' → ¬ iv c' = 34 := by intro c' r' e; injection e with e1 e2; rw [← e1]; exact h34
        cases hc : chr (c :: r) with
        | none => rw [str_bad _ hc hh] at h; cases h
        | some bn =>
          obtain ⟨b, n⟩ := bn
          have hs := chr_size hc
          rw [str_step hc hh] at h
          cases hq : str ((c :: r).drop n) with
          | none => rw [hq] at h; cases h
          | some x =>
            obtain ⟨t', m'⟩ := x
            rw [hq] at h
            simp at h
            have h2 := ih hq (by rw [List.length_drop]; simp only [List.length_cons] at hk ⊢; omega)
            rw [List.length_drop] at h2
            rw [← h.1]
            simp only [List.length_cons] at h2 ⊢
            omega
theorem one_right {l t : Bs} {k v : Int} {m : Nat} (h : one l = .tok k t v m) (at_ : Int) (ha : 0 ≤ at_) : rightB ⟨k, bs t, v, at_⟩ = true ∧ t.length ≤ l.length := by
  have hb : ∀ (k' v' : Int) (t' : Bs), Tok.bytes ⟨k', bs t', v', at_⟩ = t' := fun _ _ t' => bs_list t'
  rcases l with _ | ⟨c, r⟩
  · cases h
  · have tk : ∀ p : Int → Bool, (c :: r.take (run p r)).length ≤ (c :: r).length := by intro p; simp; omega
    simp only [one] at h
    split at h
    · rename_i hc
      have hm := run_mem tl r
      unfold wrd at h
      injection h with h1 h2 h3 h4
      subst h2 h3
      refine ⟨?_, tk _⟩
      rw [← h1]
      unfold rightB
      rw [hb]
      simp only [decide_eq_true ha, Bool.true_and]
      by_cases hk : key (c :: r.take (run tl r)) = true
      · simp [hk]
      · have hk' : key (c :: r.take (run tl r)) = false := by simpa using hk
        by_cases hl : low (iv c) = true
        · simp only [hk', hl, if_true, Bool.false_eq_true, if_false, isw, Bool.true_and, Bool.not_false, Bool.and_true, decide_true, List.all_eq_true]
          exact hm
        · have hl' : low (iv c) = false := by simpa using hl
          have hu : upp (iv c) = true := by simpa [ltr, hl'] using hc
          simp only [hk', hl', hu, Bool.false_eq_true, if_false, isw, Bool.true_and, decide_true, if_neg (show ¬ (2 : Int) = 1 by omega), if_true, List.all_eq_true]
          exact hm
    · split at h
      · split at h
        · rename_i v' hv
          injection h with h1 h2 h3 h4
          subst h1 h2 h3
          refine ⟨?_, by simp⟩
          have hr := (num_some hv).1
          unfold rightB
          rw [hb]
          simp [ha, wr_of _ hr]
        · cases h
      · split at h
        · split at h
          · rename_i hs
            split at h
            · rename_i hl
              injection h with h1 h2 h3 h4
              subst h1 h2 h3
              refine ⟨?_, ?_⟩
              · unfold rightB
                rw [hb]
                simp [ha, hl]
              · have := str_len hs
                simp; omega
            · cases h
          · cases h
        · split at h
          · rename_i hc
            have hm := run_mem opr r
            unfold wrd at h
            injection h with h1 h2 h3 h4
            subst h2 h3
            refine ⟨?_, tk _⟩
            rw [← h1]
            unfold rightB
            rw [hb]
            simp only [decide_eq_true ha, Bool.true_and]
            by_cases hk : key (c :: r.take (run opr r)) = true
            · simp [hk]
            · have hk' : key (c :: r.take (run opr r)) = false := by simpa using hk
              simp only [hk', hc, if_true, Bool.false_eq_true, if_false, isw, Bool.true_and, Bool.not_false, Bool.and_true, decide_true, List.all_eq_true, if_neg (show ¬ (5 : Int) = 1 by omega), if_neg (show ¬ (5 : Int) = 2 by omega), if_neg (show ¬ (5 : Int) = 3 by omega), if_neg (show ¬ (5 : Int) = 4 by omega)]
              exact hm
          · split at h
            · rename_i hc
              injection h with h1 h2 h3 h4
              subst h1 h2 h3
              refine ⟨?_, by simp⟩
              unfold rightB
              rw [hb]
              have : key [c] = true := by
                have e40 : iv 40 = 40 := rfl
                have e41 : iv 41 = 41 := rfl
                have e95 : iv 95 = 95 := rfl
                rcases hc with g | g | g
                · rw [show c = 40 from iv_inj g]; rfl
                · rw [show c = 41 from iv_inj g]; rfl
                · rw [show c = 95 from iv_inj g]; rfl
              simp [ha, this]
            · split at h
              · rename_i hc
                injection h with h1 h2 h3 h4
                subst h1 h2 h3
                refine ⟨?_, ?_⟩
                · unfold rightB
                  rw [hb]
                  have : key [59, 59] = true := rfl
                  simp [ha, this]
                · rcases r with _ | ⟨d, r⟩
                  · simp at hc
                  · simp
              · cases h
/-- Tokens that may be, one behind the other from a place on, and ahead of another one. -/
def Line (p q : Nat) (L : Nat) : List Tok → Prop
  | [] => True
  | t :: ts => (rightB t = true ∧ (p : Int) ≤ t.at_ ∧ t.at_ < (q : Int) ∧ t.bytes.length ≤ L) ∧ Line (t.at_.toNat + 1) q L ts
theorem Line.more {p p' q L L' : Nat} (hp : p' ≤ p) (hL : L ≤ L') : ∀ {ts : List Tok}, Line p q L ts → Line p' q L' ts
  | [], _ => trivial
  | _ :: _, ⟨⟨h1, h2, h3, h4⟩, h5⟩ => ⟨⟨h1, by omega, h3, by omega⟩, Line.more (Nat.le_refl _) hL h5⟩
def Lined (p n : Nat) (l : Bs) : Res → Prop
  | .ok ts => Line p (p + l.length) l.length ts ∧ ts.length ≤ l.length ∧ n + ts.length ≤ 4000
  | .err e q => p ≤ q ∧ q < p + l.length ∧ 30 ≤ e ∧ e ≤ 33
theorem one_err {l : Bs} {e : Int} (h : one l = .err e) : 30 ≤ e ∧ e ≤ 32 := by
  unfold one at h
  split at h
  · injection h with h; omega
  · simp only [wrd] at h
    repeat' split at h
    all_goals first
      | (injection h with h; omega)
      | cases h
theorem lex_line (p n : Nat) (l : Bs) (hn : n ≤ 4000) : Lined p n l (lexAt p n l) := by
  refine lex_cases p n l (fun p n l R => n ≤ 4000 → Lined p n l R) ?_ ?_ ?_ ?_ ?_ ?_ hn
  · intro p n hn; exact ⟨trivial, Nat.le_refl _, hn⟩
  · intro p n c r hc ih hn
    have := ih hn
    revert this
    cases lexAt (p + 1) n r with
    | ok ts =>
      rintro ⟨h1, h2, h3⟩
      refine ⟨?_, by simp; omega, h3⟩
      rw [show p + 1 + r.length = p + (c :: r).length by simp; omega] at h1
      exact h1.more (by omega) (by simp)
    | err e q => rintro ⟨h1, h2, h3⟩; exact ⟨by omega, by simp; omega, h3⟩
  · intro p n c r k hc hk ih hn
    have hkl := run_le nl (c :: r)
    rw [← hk] at hkl
    have := ih hn
    revert this
    have hl : ((c :: r).drop k).length = (c :: r).length - k := List.length_drop
    cases lexAt (p + k) n ((c :: r).drop k) with
    | ok ts =>
      rintro ⟨h1, h2, h3⟩
      rw [hl] at h1 h2
      refine ⟨?_, by omega, h3⟩
      rw [show p + k + ((c :: r).length - k) = p + (c :: r).length by omega] at h1
      exact h1.more (by omega) (by omega)
    | err e q =>
      rintro ⟨h1, h2, h3⟩
      rw [hl] at h2
      exact ⟨by omega, by omega, h3⟩
  · intro p n c r e hb ho hn
    have := one_err ho
    exact ⟨Nat.le_refl _, by simp, by omega, by omega⟩
  · intro p c r k t v m hb ho hn
    exact ⟨Nat.le_refl _, by simp, by omega, by omega⟩
  · intro p n c r k t v m hb ho hn ih hn'
    have hs := one_size ho
    have hr := one_right ho (p : Int) (by omega)
    have := ih (by omega)
    revert this
    have hl : ((c :: r).drop m).length = (c :: r).length - m := List.length_drop
    cases lexAt (p + m) (n + 1) ((c :: r).drop m) with
    | ok ts =>
      rintro ⟨h1, h2, h3⟩
      rw [hl] at h1 h2
      refine ⟨⟨⟨hr.1, Int.le_refl _, by simp only [List.length_cons]; omega, by simpa [Tok.bytes, bs_list] using hr.2⟩, ?_⟩, ?_, ?_⟩
      · rw [show p + m + ((c :: r).length - m) = p + (c :: r).length by omega] at h1
        exact h1.more (by simp; omega) (by omega)
      · simp only [List.length_append, List.length_cons, List.length_nil] at hs h2 ⊢; omega
      · simp only [List.length_append, List.length_cons, List.length_nil]; omega
    | err e q =>
      rintro ⟨h1, h2, h3⟩
      rw [hl] at h2
      exact ⟨by omega, by omega, h3⟩
theorem Line.get {q L : Nat} : ∀ {p : Nat} {ts : List Tok}, Line p q L ts → ∀ i, i < ts.length →
    rightB (ts.getD i default) = true ∧ (p : Int) ≤ (ts.getD i default).at_ ∧ (ts.getD i default).at_ < (q : Int) ∧ (ts.getD i default).bytes.length ≤ L ∧ (i + 1 < ts.length → (ts.getD i default).at_ < (ts.getD (i + 1) default).at_)
  | p, t :: ts, ⟨⟨h1, h2, h3, h4⟩, h5⟩, 0, _ => by
    refine ⟨h1, h2, h3, h4, fun hi => ?_⟩
    cases ts with
    | nil => simp at hi
    | cons u us => have := h5.1.2.1; simp; omega
  | p, t :: ts, ⟨⟨h1, h2, h3, h4⟩, h5⟩, i + 1, hi => by
    have := Line.get h5 i (by simpa using hi)
    simp only [List.getD_cons_succ, List.length_cons] at this ⊢
    exact ⟨this.1, by omega, this.2.2.1, this.2.2.2.1, fun hi' => this.2.2.2.2 (by omega)⟩
theorem Line.mem {p q L : Nat} {ts : List Tok} (h : Line p q L ts) : ∀ t ∈ ts, rightB t = true ∧ t.bytes.length ≤ L := by
  intro t ht
  obtain ⟨i, hi, e⟩ := List.getElem_of_mem ht
  have := h.get i hi
  rw [List.getD_eq_getElem?_getD, List.getElem?_eq_getElem hi, e] at this
  exact ⟨this.1, this.2.2.2.1⟩
theorem showL_len (ts : List Tok) (n : Nat) (h : ∀ t ∈ ts, rightB t = true ∧ t.bytes.length ≤ n) : (showL ts).length ≤ ts.length * (4 * n + 21) := by
  have hr : ∀ ts : List Tok, (∀ t ∈ ts, rightB t = true ∧ t.bytes.length ≤ n) → (rest ts).length ≤ ts.length * (4 * n + 21) := by
    intro ts
    induction ts with
    | nil => intro _; simp [rest]
    | cons t ts ih =>
      intro h
      have h1 := h t (by simp)
      have h2 := wordL_len t h1.1 n h1.2
      have h3 := ih fun u hu => h u (by simp [hu])
      have e : rest (t :: ts) = 32 :: wordL t ++ rest ts := by simp [rest]
      rw [e, List.length_append, List.length_cons, List.length_cons, Nat.add_mul]
      omega
  cases ts with
  | nil => simp [showL]
  | cons t ts =>
    have h1 := h t (by simp)
    have h2 := wordL_len t h1.1 n h1.2
    have h3 := hr ts fun u hu => h u (by simp [hu])
    simp only [showL, List.length_append, List.length_cons, Nat.add_mul]
    omega
theorem same_show {a b : List Tok} (h : sameL a b) : showL a = showL b := by
  have hw : ∀ t u : Tok, t.core = u.core → wordL t = wordL u := by
    intro t u e
    simp only [Tok.core, Prod.mk.injEq] at e
    simp [wordL, Tok.bytes, e.1, e.2.1, e.2.2]
  have hr : ∀ a b : List Tok, a.map Tok.core = b.map Tok.core → rest a = rest b := by
    intro a
    induction a with
    | nil => intro b e; cases b with | nil => rfl | cons => simp at e
    | cons t ts ih =>
      intro b e
      cases b with
      | nil => simp at e
      | cons u us =>
        simp only [List.map_cons, List.cons.injEq] at e
        have e2 := ih us e.2
        unfold rest at e2 ⊢
        rw [List.flatMap_cons, List.flatMap_cons, hw t u e.1, e2]
  unfold sameL at h
  cases a with
  | nil => cases b with | nil => rfl | cons => simp at h
  | cons t ts =>
    cases b with
    | nil => simp at h
    | cons u us =>
      simp only [List.map_cons, List.cons.injEq] at h
      simp only [showL, hw t u h.1, hr ts us h.2]
theorem same_right {t u : Tok} (e : t.core = u.core) (h0 : 0 ≤ u.at_) (h : rightB t = true) : rightB u = true := by
  obtain ⟨k, x, n, a⟩ := t
  obtain ⟨k', x', n', a'⟩ := u
  simp only [Tok.core, Prod.mk.injEq] at e
  obtain ⟨rfl, rfl, rfl⟩ := e
  simp only [rightB, Bool.and_eq_true, decide_eq_true_eq] at h ⊢
  exact ⟨h0, h.2⟩
end Go.Proofs.LexMath
