/- The mathematics of tokens, fourth part: which tokens may be, their words, and that what is shown is read again. -/
import Derived.Test.YtgcojmjllpjefaaLexC
namespace Go.Proofs.LexMath
open Go.Proofs.Ytgcojmjllpjefaa Go.RowKit

def isw (first rest : Int → Bool) : Bs → Bool
  | [] => false
  | c :: r => first (iv c) && r.all fun d => rest (iv d)
def Tok.bytes (t : Tok) : Bs := t.text.data.toList
def rightB (t : Tok) : Bool :=
  decide (0 ≤ t.at_) &&
  (if t.kind = 1 then decide (t.num = 0) && isw low tl t.bytes && !key t.bytes
   else if t.kind = 2 then decide (t.num = 0) && isw upp tl t.bytes
   else if t.kind = 3 then t.bytes.isEmpty && decide (wr t.num = t.num)
   else if t.kind = 4 then decide (t.num = 0) && decide (t.bytes.length ≤ 200)
   else if t.kind = 5 then decide (t.num = 0) && isw opr opr t.bytes && !key t.bytes
   else if t.kind = 6 then decide (t.num = 0) && key t.bytes
   else false)
def wordL (t : Tok) : Bs := if t.kind = 3 then shwL t.num else if t.kind = 4 then quote t.bytes else t.bytes
def rest (ts : List Tok) : Bs := ts.flatMap fun u => 32 :: wordL u
def showL : List Tok → Bs
  | [] => []
  | t :: ts => wordL t ++ rest ts
def wordR (t : Tok) : Bs := if rightB t = true then wordL t else []
theorem rest_snoc (ts : List Tok) (t : Tok) : rest (ts ++ [t]) = rest ts ++ 32 :: wordL t := by simp [rest]
theorem showL_snoc (ts : List Tok) (t : Tok) (h : ts ≠ []) : showL (ts ++ [t]) = showL ts ++ 32 :: wordL t := by
  cases ts with
  | nil => exact absurd rfl h
  | cons a ts => simp [showL, rest_snoc]
theorem isw_cons {p q : Int → Bool} {l : Bs} (h : isw p q l = true) : ∃ c r, l = c :: r ∧ p (iv c) = true ∧ ∀ d ∈ r, q (iv d) = true := by
  cases l with
  | nil => cases h
  | cons c r =>
    simp only [isw, Bool.and_eq_true, List.all_eq_true] at h
    exact ⟨c, r, rfl, h.1, h.2⟩
def Ends (x : Bs) : Prop := x = [] ∨ ∃ y, x = 32 :: y
theorem Ends.stop {x : Bs} (h : Ends x) (p : Int → Bool) (hp : p 32 = false) : x = [] ∨ ∃ c y, x = c :: y ∧ p (iv c) = false := by
  rcases h with h | ⟨y, h⟩
  · exact .inl h
  · exact .inr ⟨32, y, h, hp⟩
theorem ends_rest (ts : List Tok) : Ends (rest ts) := by
  cases ts with
  | nil => exact .inl rfl
  | cons t ts => exact .inr ⟨_, rfl⟩
theorem run_word (p : Int → Bool) (hp : p 32 = false) (r x : Bs) (hr : ∀ d ∈ r, p (iv d) = true) (hx : Ends x) : run p (r ++ x) = r.length ∧ (r ++ x).take (run p (r ++ x)) = r := by
  have h1 : run p (r ++ x) = r.length := by rw [run_stop p r x (hx.stop p hp), run_all p r hr]
  exact ⟨h1, by rw [h1]; simp⟩
/-- The class of the head decides. -/
theorem cls_low {r : Int} (h : low r = true) : ltr r = true := by simp [ltr, h]
theorem cls_upp {r : Int} (h : upp r = true) : ltr r = true ∧ low r = false := by
  refine ⟨by simp [ltr, h], ?_⟩
  simp [upp, low] at h ⊢; omega
theorem cls_opr {r : Int} (h : opr r = true) : ltr r = false ∧ ¬ (r = 126 ∨ dgt r = true) ∧ ¬ r = 34 ∧ ¬ r = 32 ∧ ¬ r = 10 ∧ ¬ r = 35 := by
  simp [opr] at h
  simp [ltr, low, upp, dgt]
  omega
theorem nb {c : UInt8} (h : ¬ iv c = 32 ∧ ¬ iv c = 10 ∧ ¬ iv c = 35) : NoBlank c := ⟨by omega, h.2.2⟩
theorem nb_ltr {c : UInt8} (h : ltr (iv c) = true) : NoBlank c := nb (by simp [ltr, low, upp] at h; omega)
theorem nb_dgt {c : UInt8} (h : iv c = 126 ∨ dgt (iv c) = true) : NoBlank c := nb (by simp [dgt] at h; omega)
theorem key_heads (t : Bs) (h : key t = true) : ∃ c r, t = c :: r ∧ ((low (iv c) = true ∧ ∀ d ∈ r, low (iv d) = true) ∨ (opr (iv c) = true ∧ ∀ d ∈ r, opr (iv d) = true) ∨ (t = [40] ∨ t = [41] ∨ t = [95] ∨ t = [59, 59])) := by
  unfold key keys at h
  simp only [List.contains_eq_mem, List.mem_cons, List.not_mem_nil, or_false, decide_eq_true_eq] at h
  rcases h with rfl | rfl | rfl | rfl | rfl | rfl | rfl | rfl | rfl | rfl | rfl | rfl | rfl | rfl | rfl | rfl | rfl | rfl | rfl | rfl | rfl | rfl | rfl | rfl | rfl
  all_goals refine ⟨_, _, rfl, ?_⟩
  all_goals first
    | exact .inl ⟨by decide, by decide⟩
    | exact .inr (.inl ⟨by decide, by decide⟩)
    | exact .inr (.inr (by decide))
theorem low_tl {r : Int} (h : low r = true) : tl r = true := by simp [tl, ltr, h]
/-- A word of letters. -/
theorem one_name (c : UInt8) (r x : Bs) (hc : ltr (iv c) = true) (hr : ∀ d ∈ r, tl (iv d) = true) (hx : Ends x) : one (c :: r ++ x) = wrd (if low (iv c) then 1 else 2) (c :: r) := by
  obtain ⟨_, h2⟩ := run_word tl rfl r x hr hx
  simp only [List.cons_append, one, hc, if_true, h2]
theorem one_oper (c : UInt8) (r x : Bs) (hc : opr (iv c) = true) (hr : ∀ d ∈ r, opr (iv d) = true) (hx : Ends x) : one (c :: r ++ x) = wrd 5 (c :: r) := by
  obtain ⟨_, h2⟩ := run_word opr rfl r x hr hx
  obtain ⟨a1, a2, a3, _⟩ := cls_opr hc
  simp only [List.cons_append, one, a1, a2, a3, hc, if_true, if_false, h2, Bool.false_eq_true]
theorem one_num (v : Int) (x : Bs) (h0 : -4611686018427387904 ≤ v) (h1 : v ≤ 4611686018427387903) (hx : Ends x) : one (shwL v ++ x) = .tok 3 [] v (shwL v).length := by
  have hn := num_shw v h0 h1
  obtain ⟨c, r, e, hc, hr⟩ := shwL_head v h0
  rw [e] at hn ⊢
  obtain ⟨h2, h3⟩ := run_word dgt rfl r x hr hx
  rw [h2] at h3
  have hl : ltr (iv c) = false := by simp [dgt] at hc; simp [ltr, low, upp]; omega
  simp only [List.cons_append, one, hl, Bool.false_eq_true, if_false, hc, if_true, h3, hn, h2, List.length_cons]
theorem one_text (s x : Bs) (hs : s.length ≤ 200) : one (quote s ++ x) = .tok 4 s 0 (quote s).length := by
  have e : quote s ++ x = 34 :: (qbody s ++ 34 :: x) := by simp [quote]
  have c34 : iv 34 = 34 := rfl
  have hl : ltr 34 = false := rfl
  have hd : dgt 34 = false := rfl
  rw [e]
  simp [one, c34, hl, hd, str_quote, hs, quote]
theorem one_long (s x : Bs) (hs : 200 < s.length) : one (quote s ++ x) = .err 32 := by
  have e : quote s ++ x = 34 :: (qbody s ++ 34 :: x) := by simp [quote]
  have c34 : iv 34 = 34 := rfl
  have hl : ltr 34 = false := rfl
  have hd : dgt 34 = false := rfl
  have hs' : ¬ s.length ≤ 200 := by omega
  rw [e]
  simp [one, c34, hl, hd, str_quote, hs']
theorem one_key (t x : Bs) (h : key t = true) (hx : Ends x) : one (t ++ x) = .tok 6 t 0 t.length := by
  obtain ⟨c, r, rfl, h1 | h1 | h1⟩ := key_heads t h
  · rw [one_name c r x (cls_low h1.1) (fun d hd => low_tl (h1.2 d hd)) hx]
    simp [wrd, h]
  · rw [one_oper c r x h1.1 h1.2 hx]
    simp [wrd, h]
  · rcases h1 with h1 | h1 | h1 | h1
    all_goals rw [h1]; rfl
theorem key_nb (t x : Bs) (h : key t = true) : ∃ c r, t ++ x = c :: r ∧ NoBlank c := by
  obtain ⟨c, r, rfl, h1 | h1 | h1⟩ := key_heads t h
  · exact ⟨c, r ++ x, rfl, nb_ltr (cls_low h1.1)⟩
  · exact ⟨c, r ++ x, rfl, nb (by have := cls_opr h1.1; omega)⟩
  · rcases h1 with h1 | h1 | h1 | h1
    all_goals rw [h1]; exact ⟨_, _, rfl, nb (by decide)⟩
theorem one_word (t : Tok) (x : Bs) (h : rightB t = true) (hx : Ends x) : one (wordL t ++ x) = .tok t.kind t.bytes t.num (wordL t).length ∧ ∃ c r, wordL t ++ x = c :: r ∧ NoBlank c := by
  obtain ⟨kd, tx, v, at_⟩ := t
  simp only [rightB, Bool.and_eq_true] at h
  obtain ⟨_, h⟩ := h
  by_cases k1 : kd = 1
  · subst k1
    simp only [if_true, Bool.and_eq_true, Bool.not_eq_true', decide_eq_true_eq] at h
    obtain ⟨⟨rfl, h2⟩, h3⟩ := h
    obtain ⟨c, r, e, hc, hr⟩ := isw_cons h2
    have e' : wordL ⟨1, tx, 0, at_⟩ = c :: r := e
    rw [e'] at *
    show one (c :: r ++ x) = .tok 1 (Tok.bytes ⟨1, tx, 0, at_⟩) 0 _ ∧ _
    rw [e] at h3 ⊢
    refine ⟨?_, c, r ++ x, rfl, nb_ltr (cls_low hc)⟩
    rw [one_name c r x (cls_low hc) hr hx]
    simp [wrd, h3, hc]
  · rw [if_neg k1] at h
    by_cases k2 : kd = 2
    · subst k2
      simp only [if_true, Bool.and_eq_true, decide_eq_true_eq] at h
      obtain ⟨rfl, h2⟩ := h
      obtain ⟨c, r, e, hc, hr⟩ := isw_cons h2
      have hk : key (c :: r) = false := by
        rcases Bool.eq_false_or_eq_true (key (c :: r)) with g | g
        · exfalso
          obtain ⟨c', r', e', g⟩ := key_heads _ g
          injection e' with e1 e2
          subst e1 e2
          have := cls_upp hc
          rcases g with g | g | g | g | g | g
          · rw [g.1] at this; exact absurd this.2 (by simp)
          · have := cls_opr g.1; simp [upp] at hc; simp [ltr, upp] at this; omega
          all_goals (injection g with g1 g2; subst g1; exact absurd hc (by decide))
        · exact g
      have e' : wordL ⟨2, tx, 0, at_⟩ = c :: r := e
      rw [e']
      show one (c :: r ++ x) = .tok 2 (Tok.bytes ⟨2, tx, 0, at_⟩) 0 _ ∧ _
      rw [e]
      refine ⟨?_, c, r ++ x, rfl, nb_ltr (cls_upp hc).1⟩
      rw [one_name c r x (cls_upp hc).1 hr hx]
      simp [wrd, hk, (cls_upp hc).2]
    · rw [if_neg k2] at h
      by_cases k3 : kd = 3
      · subst k3
        simp only [if_true, Bool.and_eq_true, decide_eq_true_eq, List.isEmpty_iff] at h
        have hv := wr_range v
        rw [h.2] at hv
        have e' : wordL ⟨3, tx, v, at_⟩ = shwL v := rfl
        rw [e']
        show one (shwL v ++ x) = .tok 3 (Tok.bytes ⟨3, tx, v, at_⟩) v _ ∧ _
        rw [h.1]
        refine ⟨one_num v x hv.1 hv.2 hx, ?_⟩
        obtain ⟨c, r, e, hc, hr⟩ := shwL_head v hv.1
        exact ⟨c, r ++ x, by rw [e]; rfl, nb_dgt hc⟩
      · rw [if_neg k3] at h
        by_cases k4 : kd = 4
        · subst k4
          simp only [if_true, Bool.and_eq_true, decide_eq_true_eq] at h
          obtain ⟨rfl, h2⟩ := h
          exact ⟨one_text _ x h2, 34, _, rfl, nb (by decide)⟩
        · rw [if_neg k4] at h
          by_cases k5 : kd = 5
          · subst k5
            simp only [if_true, Bool.and_eq_true, Bool.not_eq_true', decide_eq_true_eq] at h
            obtain ⟨⟨rfl, h2⟩, h3⟩ := h
            obtain ⟨c, r, e, hc, hr⟩ := isw_cons h2
            have e' : wordL ⟨5, tx, 0, at_⟩ = c :: r := e
            rw [e']
            show one (c :: r ++ x) = .tok 5 (Tok.bytes ⟨5, tx, 0, at_⟩) 0 _ ∧ _
            rw [e] at h3 ⊢
            refine ⟨?_, c, r ++ x, rfl, nb (by have := cls_opr hc; omega)⟩
            rw [one_oper c r x hc hr hx]
            simp [wrd, h3]
          · rw [if_neg k5] at h
            by_cases k6 : kd = 6
            · subst k6
              simp only [if_true, Bool.and_eq_true, decide_eq_true_eq] at h
              obtain ⟨rfl, h2⟩ := h
              have e' : wordL ⟨6, tx, 0, at_⟩ = Tok.bytes ⟨6, tx, 0, at_⟩ := rfl
              rw [e']
              exact ⟨one_key _ x h2 hx, key_nb _ x h2⟩
            · rw [if_neg k6] at h; cases h
theorem wordL_len (t : Tok) (h : rightB t = true) (n : Nat) (hn : t.bytes.length ≤ n) : 1 ≤ (wordL t).length ∧ (wordL t).length ≤ 4 * n + 20 := by
  have h1 := (one_word t [] h (.inl rfl)).2
  obtain ⟨c, r, e, _⟩ := h1
  rw [List.append_nil] at e
  refine ⟨by rw [e]; simp, ?_⟩
  unfold wordL
  split
  · have a := shl_length t.num
    unfold shwL shw
    rw [strOfNums_data, List.length_map]
    omega
  · split
    · have := qbody_len t.bytes
      simp [quote]; omega
    · omega
theorem wordL_ne (t : Tok) (h : rightB t = true) : wordL t ≠ [] := by
  have := (wordL_len t h _ (Nat.le_refl _)).1
  intro e; rw [e] at this; simp at this
/-- WHAT IS SHOWN IS READ AGAIN. -/
theorem lex_word (t : Tok) (x : Bs) (p n : Nat) (h : rightB t = true) (hx : Ends x) (hn : ¬ n = 4000) :
    lexAt p n (wordL t ++ x) = (lexAt (p + (wordL t).length) (n + 1) x).pre [⟨t.kind, t.text, t.num, (p : Int)⟩] := by
  obtain ⟨h1, c, r, e, hc⟩ := one_word t x h hx
  rw [e] at h1
  rw [e, lexAt_tok p n hc h1 hn, ← e, List.drop_left]
  unfold Tok.bytes
  rw [bs_of]
theorem lex_rest (ts : List Tok) : ∀ (p n : Nat), (∀ t ∈ ts, rightB t = true) → n + ts.length ≤ 4000 → ∃ m, lexAt p n (rest ts) = .ok m ∧ sameL m ts := by
  induction ts with
  | nil => intro p n _ _; exact ⟨[], rfl, rfl⟩
  | cons t ts ih =>
    intro p n h hn
    simp only [List.length_cons] at hn
    have e : rest (t :: ts) = 32 :: (wordL t ++ rest ts) := by simp [rest]
    rw [e, lexAt_blank p n 32 _ (.inl rfl), lex_word t (rest ts) (p + 1) n (h t (by simp)) (ends_rest ts) (by omega)]
    obtain ⟨m, hm, hs⟩ := ih (p + 1 + (wordL t).length) (n + 1) (fun u hu => h u (by simp [hu])) (by omega)
    rw [hm]
    refine ⟨_, rfl, ?_⟩
    unfold sameL at hs ⊢
    simp [hs, Tok.core]
theorem lex_show (ts : List Tok) (h : ∀ t ∈ ts, rightB t = true) (hn : ts.length ≤ 4000) : ∃ m, lex (showL ts) = .ok m ∧ sameL m ts := by
  cases ts with
  | nil => exact ⟨[], rfl, rfl⟩
  | cons t ts =>
    simp only [List.length_cons] at hn
    unfold lex showL
    rw [lex_word t (rest ts) 0 0 (h t (by simp)) (ends_rest ts) (by omega)]
    obtain ⟨m, hm, hs⟩ := lex_rest ts (0 + (wordL t).length) (0 + 1) (fun u hu => h u (by simp [hu])) (by omega)
    rw [hm]
    refine ⟨_, rfl, ?_⟩
    unfold sameL at hs ⊢
    simp [hs, Tok.core]
theorem lex_quote (s : Bs) (hs : s.length ≤ 200) : lex (quote s) = .ok [⟨4, bs s, 0, 0⟩] := by
  have h := lex_word ⟨4, bs s, 0, 0⟩ [] 0 0 (by simp [rightB, Tok.bytes, bs_list]; exact hs) (.inl rfl) (by omega)
  have e : wordL ⟨4, bs s, 0, 0⟩ = quote s := by simp [wordL, Tok.bytes, bs_list]
  rw [e, List.append_nil] at h
  unfold lex
  rw [h, lexAt_nil]
  rfl
theorem lex_long (s : Bs) (hs : 200 < s.length) : lex (quote s) = .err 32 0 := by
  have h := one_long s [] hs
  rw [List.append_nil] at h
  exact lexAt_err 0 0 (nb (by decide)) h
end Go.Proofs.LexMath
