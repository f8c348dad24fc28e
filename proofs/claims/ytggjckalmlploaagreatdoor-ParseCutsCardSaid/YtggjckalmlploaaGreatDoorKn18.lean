/- Texts of this seat, one behind the other: LxFixB, LxFixC, LxFixD. -/
import Derived.Test.YtggjckalmlploaaGreatDoorKn06
/- The mathematics of fixities, second part: which one is the root, and how operators in a row bind. -/
namespace Go.Proofs.FixMath

/-- The least level. -/
def lowL (p : List Fx) : Int := p.foldl (fun m f => min m f.level) 10
/-- Those of the least level: each one's place, and its side. -/
def lows (low : Int) : Nat → List Fx → List (Nat × Int)
  | _, [] => []
  | i, f :: fs => if f.level = low then (i, f.side) :: lows low (i + 1) fs else lows low (i + 1) fs
theorem lows_append (low : Int) (a b : List Fx) : ∀ i, lows low i (a ++ b) = lows low i a ++ lows low (i + a.length) b := by
  induction a with
  | nil => intro i; simp [lows]
  | cons x a ih =>
    intro i
    simp only [List.cons_append, lows, ih, List.length_cons]
    rw [show i + 1 + a.length = i + (a.length + 1) by omega]
    split <;> simp
theorem lows_mem {low : Int} {p : List Fx} {x : Nat × Int} : ∀ {i : Nat}, x ∈ lows low i p → i ≤ x.1 ∧ x.1 < i + p.length ∧ (p.getD (x.1 - i) default).level = low ∧ (p.getD (x.1 - i) default).side = x.2 := by
  induction p with
  | nil => intro i h; simp [lows] at h
  | cons f p ih =>
    intro i h
    have rest : x ∈ lows low (i + 1) p → i ≤ x.1 ∧ x.1 < i + (f :: p).length ∧ ((f :: p).getD (x.1 - i) default).level = low ∧ ((f :: p).getD (x.1 - i) default).side = x.2 := by
      intro h
      obtain ⟨a, b, c, d⟩ := ih h
      rw [show x.1 - i = (x.1 - (i + 1)) + 1 by omega]
      refine ⟨by omega, by simp; omega, ?_, ?_⟩
      · rw [List.getD_cons_succ]; exact c
      · rw [List.getD_cons_succ]; exact d
    unfold lows at h
    split at h
    · rename_i hl
      rcases List.mem_cons.1 h with rfl | h
      · simp [hl]
      · exact rest h
    · exact rest h
/-- Which of these is the root. -/
def pick (P : List (Nat × Int)) : Option Nat :=
  if 1 < P.length ∧ P.countP (fun x => decide (x.2 < 0)) = P.length then (P.getLast?).map Prod.fst
  else if 1 < P.length ∧ ¬ P.countP (fun x => decide (0 < x.2)) = P.length then none
  else (P.head?).map Prod.fst
/-- Which operator of a part is the root: its place. -/
def root (p : List Fx) : Option Nat := pick (lows (lowL p) 0 p)
theorem countP_all {α : Type} (q : α → Bool) (P : List α) : P.countP q = P.length ↔ ∀ x ∈ P, q x = true := List.countP_eq_length
/-- One after the other: the place that stands so far; -1: they clash. -/
def scan (s : Int) : Int → List (Nat × Int) → Int
  | at_, [] => at_
  | at_, x :: P => if at_ < 0 then scan s x.1 P else if x.2 = 0 ∨ ¬ x.2 = s then -1 else if x.2 < 0 then scan s x.1 P else scan s at_ P
/-- The same over a part. -/
def scanL (low s : Int) : Nat → Int → List Fx → Int
  | _, at_, [] => at_
  | i, at_, f :: fs => if low < f.level then scanL low s (i + 1) at_ fs else if at_ < 0 then scanL low s (i + 1) i fs else if f.side = 0 ∨ ¬ f.side = s then -1 else if f.side < 0 then scanL low s (i + 1) i fs else scanL low s (i + 1) at_ fs
theorem scanL_scan (low s : Int) (p : List Fx) (h : ∀ f ∈ p, low ≤ f.level) : ∀ i at_, scanL low s i at_ p = scan s at_ (lows low i p) := by
  induction p with
  | nil => intro i at_; simp [scanL, scan, lows]
  | cons f p ih =>
    intro i at_
    have hf := h f List.mem_cons_self
    have ih := ih fun g hg => h g (List.mem_cons_of_mem _ hg)
    unfold scanL lows
    by_cases e : f.level = low
    · rw [if_neg (by omega), if_pos e]
      simp only [ih]
      conv => rhs; unfold scan
    · rw [if_pos (by omega), if_neg e, ih]
def optI (o : Option Nat) : Int := match o with | some i => i | none => -1
theorem scan_neg (s : Int) (hs : s < 0) (P : List (Nat × Int)) : ∀ at_ : Int, 0 ≤ at_ → (∀ x ∈ P, x.2 = s) → scan s at_ P = ((P.getLast?).map fun x => (x.1 : Int)).getD at_ := by
  induction P with
  | nil => intro at_ _ _; rfl
  | cons x P ih =>
    intro at_ h0 h
    have hx := h x List.mem_cons_self
    unfold scan
    rw [if_neg (by omega), if_neg (by omega), if_pos (by omega), ih _ (by omega) fun y hy => h y (List.mem_cons_of_mem _ hy)]
    rw [List.getLast?_cons]
    cases P.getLast? <;> simp
theorem scan_pos (s : Int) (hs : 0 < s) (P : List (Nat × Int)) : ∀ at_ : Int, 0 ≤ at_ → (∀ x ∈ P, x.2 = s) → scan s at_ P = at_ := by
  induction P with
  | nil => intro at_ _ _; rfl
  | cons x P ih =>
    intro at_ h0 h
    have hx := h x List.mem_cons_self
    unfold scan
    rw [if_neg (by omega), if_neg (by omega), if_neg (by omega), ih _ h0 fun y hy => h y (List.mem_cons_of_mem _ hy)]
theorem scan_bad (s : Int) (P : List (Nat × Int)) : ∀ at_ : Int, 0 ≤ at_ → (∃ x ∈ P, x.2 = 0 ∨ ¬ x.2 = s) → scan s at_ P = -1 := by
  induction P with
  | nil => intro at_ _ h; obtain ⟨x, hx, _⟩ := h; simp at hx
  | cons x P ih =>
    intro at_ h0 h
    unfold scan
    rw [if_neg (by omega)]
    by_cases hb : x.2 = 0 ∨ ¬ x.2 = s
    · rw [if_pos hb]
    · rw [if_neg hb]
      have hP : ∃ x ∈ P, x.2 = 0 ∨ ¬ x.2 = s := by
        obtain ⟨y, hy, e⟩ := h
        rcases List.mem_cons.1 hy with rfl | hy
        · exact absurd e hb
        · exact ⟨y, hy, e⟩
      split
      · exact ih _ (by omega) hP
      · exact ih _ h0 hP
theorem scan_pick (i : Nat) (s : Int) (P : List (Nat × Int)) (h : ∀ x ∈ (i, s) :: P, x.2 = -1 ∨ x.2 = 0 ∨ x.2 = 1) : scan s (-1) ((i, s) :: P) = optI (pick ((i, s) :: P)) := by
  unfold scan
  rw [if_pos (by omega)]
  have hs := h _ List.mem_cons_self
  have hP : ∀ x ∈ P, x.2 = -1 ∨ x.2 = 0 ∨ x.2 = 1 := fun x hx => h x (List.mem_cons_of_mem _ hx)
  simp only at hs
  unfold pick
  simp only [countP_all, List.mem_cons, forall_eq_or_imp, decide_eq_true_eq]
  rcases P with _ | ⟨y, P⟩
  · simp [scan, optI]
  · have hl : 1 < ((i, s) :: y :: P).length := by simp
    by_cases hn : s < 0 ∧ ∀ x ∈ y :: P, x.2 < 0
    · rw [if_pos ⟨hl, hn⟩, scan_neg s hn.1 _ _ (by omega) fun x hx => by have := hP x hx; have := hn.2 x hx; omega]
      simp [optI, List.getLast?_cons]
    · rw [if_neg (fun h => hn h.2)]
      by_cases hp : 0 < s ∧ ∀ x ∈ y :: P, 0 < x.2
      · rw [if_neg (fun h => h.2 hp), scan_pos s hp.1 _ _ (by omega) fun x hx => by have := hP x hx; have := hp.2 x hx; omega]
        simp [optI]
      · rw [if_pos ⟨hl, hp⟩, scan_bad s _ _ (by omega)]
        · rfl
        · refine Classical.byContradiction fun hc => ?_
          have hall : ∀ x ∈ y :: P, ¬ x.2 = 0 ∧ x.2 = s := fun x hx => by
            have := fun e => hc ⟨x, hx, e⟩
            exact ⟨fun e => this (.inl e), Classical.byContradiction fun e => this (.inr e)⟩
          have hy := hall y List.mem_cons_self
          rcases hs with hs | hs | hs
          · exact hn ⟨by omega, fun x hx => by have := hall x hx; omega⟩
          · omega
          · exact hp ⟨by omega, fun x hx => by have := hall x hx; omega⟩
theorem lowL_aux (p : List Fx) : ∀ m : Int, (p.foldl (fun m f => min m f.level) m ≤ m ∧ ∀ f ∈ p, p.foldl (fun m f => min m f.level) m ≤ f.level) ∧ (p.foldl (fun m f => min m f.level) m = m ∨ ∃ k, k < p.length ∧ (p.getD k default).level = p.foldl (fun m f => min m f.level) m) := by
  induction p with
  | nil => intro m; simp
  | cons x p ih =>
    intro m
    rw [List.foldl_cons]
    obtain ⟨⟨h1, h2⟩, h3⟩ := ih (min m x.level)
    refine ⟨⟨by omega, fun f hf => ?_⟩, ?_⟩
    · rcases List.mem_cons.1 hf with rfl | hf
      · omega
      · exact h2 f hf
    · rcases h3 with h3 | ⟨k, hk, h3⟩
      · by_cases e : m ≤ x.level
        · exact .inl (by omega)
        · exact .inr ⟨0, by simp, by simp; omega⟩
      · exact .inr ⟨k + 1, by simpa using hk, by simpa using h3⟩
theorem lowL_le (p : List Fx) : lowL p ≤ 10 ∧ ∀ f ∈ p, lowL p ≤ f.level := (lowL_aux p 10).1
theorem lowL_of (p : List Fx) (k : Nat) (hk : k < p.length) (h9 : (p.getD k default).level ≤ 9) (h : ∀ f ∈ p, (p.getD k default).level ≤ f.level) : lowL p = (p.getD k default).level := by
  have h1 : lowL p ≤ (p.getD k default).level := (lowL_le p).2 _ (by rw [List.getD_eq_getElem?_getD, List.getElem?_eq_getElem hk]; simp)
  rcases (lowL_aux p 10).2 with e | ⟨j, hj, e⟩
  · unfold lowL at *; omega
  · have := h (p.getD j default) (by rw [List.getD_eq_getElem?_getD, List.getElem?_eq_getElem hj]; simp)
    unfold lowL at *; omega
/-- What the levels and sides of a fixity that may be are. -/
def fine (f : Fx) : Prop := 0 ≤ f.level ∧ f.level ≤ 9 ∧ (f.side = -1 ∨ f.side = 0 ∨ f.side = 1)
theorem getD_mem {p : List Fx} {k : Nat} (hk : k < p.length) : p.getD k default ∈ p := by rw [List.getD_eq_getElem?_getD, List.getElem?_eq_getElem hk]; simp
/-- The first one of the least level, and from it on one after the other: just the root. -/
theorem scanL_root (p : List Fx) (k : Nat) (hf : ∀ f ∈ p, fine f) (hk : k < p.length) (h1 : ∀ j, j < k → (p.getD k default).level < (p.getD j default).level) (h2 : ∀ j, j < p.length → (p.getD k default).level ≤ (p.getD j default).level) :
    scanL (p.getD k default).level (p.getD k default).side 0 (-1) p = optI (root p) := by
  have hl : lowL p = (p.getD k default).level := lowL_of p k hk (hf _ (getD_mem hk)).2.1 fun f hf => by
    obtain ⟨j, hj, rfl⟩ := List.getElem_of_mem hf
    have := h2 j hj
    rwa [List.getD_eq_getElem?_getD (i := j), List.getElem?_eq_getElem hj, Option.getD_some] at this
  unfold root
  rw [hl, scanL_scan _ _ _ fun f hf => by
    obtain ⟨j, hj, rfl⟩ := List.getElem_of_mem hf
    have := h2 j hj
    rwa [List.getD_eq_getElem?_getD (i := j), List.getElem?_eq_getElem hj, Option.getD_some] at this]
  have hP : ∃ P, lows (p.getD k default).level 0 p = (k, (p.getD k default).side) :: P := by
    have e : p = p.take k ++ p.getD k default :: p.drop (k + 1) := by
      rw [List.getD_eq_getElem?_getD, List.getElem?_eq_getElem hk, Option.getD_some, List.getElem_cons_drop, List.take_append_drop]
    have e0 : lows (p.getD k default).level 0 (p.take k) = [] := by
      rw [List.eq_nil_iff_forall_not_mem]
      intro x hx
      obtain ⟨a, b, c, _⟩ := lows_mem hx
      have hb : x.1 < k := by simp at b; omega
      have := h1 x.1 hb
      simp only [Nat.sub_zero] at c
      rw [List.getD_eq_getElem?_getD, List.getElem?_take_of_lt hb, ← List.getD_eq_getElem?_getD] at c
      omega
    refine ⟨lows (p.getD k default).level (k + 1) (p.drop (k + 1)), ?_⟩
    have e2 := congrArg (lows (p.getD k default).level 0) e
    rw [e2, lows_append, e0, List.nil_append, List.length_take, show 0 + min k p.length = k by omega]
    conv => lhs; unfold lows
    rw [if_pos rfl]
  obtain ⟨P, hP⟩ := hP
  rw [hP]
  refine scan_pick k _ P fun x hx => ?_
  rw [← hP] at hx
  obtain ⟨_, b, _, d⟩ := lows_mem hx
  have := (hf _ (getD_mem (p := p) (k := x.1) (by omega))).2.2
  simp only [Nat.sub_zero] at d
  omega
theorem pick_mem {P : List (Nat × Int)} {i : Nat} (h : pick P = some i) : ∃ s, (i, s) ∈ P := by
  unfold pick at h
  split at h
  · cases hq : P.getLast? with
    | none => rw [hq] at h; simp at h
    | some x => rw [hq] at h; simp at h; exact ⟨x.2, by rw [← h]; exact List.mem_of_getLast? hq⟩
  · split at h
    · cases h
    · cases hq : P.head? with
      | none => rw [hq] at h; simp at h
      | some x => rw [hq] at h; simp at h; exact ⟨x.2, by rw [← h]; exact List.mem_of_mem_head? hq⟩
theorem root_lt {p : List Fx} {i : Nat} (h : root p = some i) : i < p.length ∧ (p.getD i default).level = lowL p := by
  obtain ⟨s, hs⟩ := pick_mem h
  obtain ⟨_, b, c, _⟩ := lows_mem hs
  simp at b c
  exact ⟨b, by simpa [List.getD_eq_getElem?_getD] using c⟩

/-- How operators in a row bind, as a list: in n steps. -/
def bindN : Nat → List Fx → Int → Option (List Int)
  | 0, p, fr => if p = [] then some [-1 - fr] else none
  | n + 1, p, fr => if p = [] then some [-1 - fr] else
    match root p with
    | none => none
    | some i => match bindN n (p.take i) fr, bindN n (p.drop (i + 1)) (fr + i + 1) with
      | some a, some b => some ((fr + i) :: (a ++ b))
      | _, _ => none
theorem bindN_two (n : Nat) : ∀ (m : Nat) (p : List Fx) (fr : Int), p.length ≤ n → p.length ≤ m → bindN n p fr = bindN m p fr := by
  induction n with
  | zero =>
    intro m p fr h _
    obtain rfl : p = [] := List.eq_nil_of_length_eq_zero (by omega)
    cases m <;> simp [bindN]
  | succ n ih =>
    intro m p fr h h'
    rcases p with _ | ⟨x, p⟩
    · cases m <;> simp [bindN]
    · obtain ⟨m, rfl⟩ : ∃ k, m = k + 1 := ⟨m - 1, by simp at h'; omega⟩
      unfold bindN
      rw [if_neg (by simp), if_neg (by simp)]
      cases hr : root (x :: p) with
      | none => rfl
      | some i =>
        have hi := (root_lt hr).1
        simp only [List.length_cons] at hi h h'
        have l1 : ((x :: p).take i).length = i := by simp; omega
        have l2 : ((x :: p).drop (i + 1)).length = p.length - i := by simp
        simp only
        rw [ih m _ fr (by omega) (by omega), ih m _ (fr + i + 1) (by omega) (by omega)]
/-- How operators in a row bind, as a list. -/
def bindL (p : List Fx) (fr : Int) : Option (List Int) := bindN p.length p fr
theorem bindL_nil (fr : Int) : bindL [] fr = some [-1 - fr] := by simp [bindL, bindN]
theorem bindL_none {p : List Fx} (fr : Int) (hp : p ≠ []) (h : root p = none) : bindL p fr = none := by
  unfold bindL
  rcases p with _ | ⟨x, p⟩
  · exact absurd rfl hp
  · rw [List.length_cons]
    unfold bindN
    rw [if_neg hp, h]
theorem bindL_some {p : List Fx} (fr : Int) {i : Nat} (h : root p = some i) :
    bindL p fr = match bindL (p.take i) fr, bindL (p.drop (i + 1)) (fr + i + 1) with | some a, some b => some ((fr + i) :: (a ++ b)) | _, _ => none := by
  have hi := (root_lt h).1
  unfold bindL
  rcases p with _ | ⟨x, p⟩
  · simp at hi
  · have l1 : ((x :: p).take i).length ≤ p.length := by simp at hi ⊢; omega
    have l2 : ((x :: p).drop (i + 1)).length ≤ p.length := by simp
    rw [List.length_cons]
    conv => lhs; unfold bindN
    rw [if_neg (by simp), h]
    simp only
    rw [bindN_two p.length _ _ fr l1 (Nat.le_refl _), bindN_two p.length _ _ (fr + i + 1) l2 (Nat.le_refl _)]
theorem bindL_len {p : List Fx} : ∀ {fr : Int} {c : List Int}, bindL p fr = some c → c.length = 2 * p.length + 1 := by
  obtain ⟨n, hn⟩ : ∃ n, p.length ≤ n := ⟨_, Nat.le_refl _⟩
  induction n generalizing p with
  | zero =>
    obtain rfl : p = [] := List.eq_nil_of_length_eq_zero (by omega)
    intro fr c h; rw [bindL_nil] at h; simp at h; simp [← h]
  | succ n ih =>
    intro fr c h
    by_cases hp : p = []
    · subst hp; rw [bindL_nil] at h; simp at h; simp [← h]
    · cases hr : root p with
      | none => rw [bindL_none fr hp hr] at h; cases h
      | some i =>
        have hi := (root_lt hr).1
        rw [bindL_some fr hr] at h
        cases ha : bindL (p.take i) fr with
        | none => rw [ha] at h; simp at h
        | some a =>
          cases hb : bindL (p.drop (i + 1)) (fr + i + 1) with
          | none => rw [ha, hb] at h; simp at h
          | some b =>
            rw [ha, hb] at h
            simp at h
            have la := ih (p := p.take i) (by simp; omega) ha
            have lb := ih (p := p.drop (i + 1)) (by simp; omega) hb
            rw [← h]
            simp at la lb ⊢
            omega
end Go.Proofs.FixMath
/- The mathematics of fixities, third part: how numbers stand in a row. -/
namespace Go.Proofs.FixMath

/-- The numbers of what a list begins with, in a row, and what is left; in n steps. -/
def flatN : Nat → List Int → Option (List Int × List Int)
  | 0, _ => none
  | _ + 1, [] => none
  | n + 1, x :: l => if x < 0 then some ([x], l) else
    match flatN n l with
    | none => none
    | some (a, r) => match flatN n r with
      | none => none
      | some (b, r') => some (a ++ x :: b, r')
theorem flatN_rest (n : Nat) : ∀ {l a r : List Int}, flatN n l = some (a, r) → ∃ c, l = c ++ r ∧ c ≠ [] ∧ c.length = a.length := by
  induction n with
  | zero => intro l a r h; simp [flatN] at h
  | succ n ih =>
    intro l a r h
    rcases l with _ | ⟨x, l⟩
    · simp [flatN] at h
    · unfold flatN at h
      split at h
      · simp at h; obtain ⟨rfl, rfl⟩ := h; exact ⟨[x], rfl, by simp, by simp⟩
      · cases hq : flatN n l with
        | none => rw [hq] at h; simp at h
        | some y =>
          obtain ⟨a1, r1⟩ := y
          rw [hq] at h
          simp only at h
          cases hq2 : flatN n r1 with
          | none => rw [hq2] at h; simp at h
          | some z =>
            obtain ⟨b, r2⟩ := z
            rw [hq2] at h
            simp at h
            obtain ⟨rfl, rfl⟩ := h
            obtain ⟨c1, rfl, _, l1⟩ := ih hq
            obtain ⟨c2, rfl, _, l2⟩ := ih hq2
            exact ⟨x :: (c1 ++ c2), by simp, by simp, by simp; omega⟩
theorem flatN_two (n : Nat) : ∀ (m : Nat) (l : List Int), l.length ≤ n → l.length ≤ m → flatN n l = flatN m l := by
  induction n with
  | zero =>
    intro m l h _
    obtain rfl : l = [] := List.eq_nil_of_length_eq_zero (by omega)
    cases m <;> rfl
  | succ n ih =>
    intro m l h h'
    rcases l with _ | ⟨x, l⟩
    · cases m <;> rfl
    · obtain ⟨m, rfl⟩ : ∃ k, m = k + 1 := ⟨m - 1, by simp at h'; omega⟩
      simp only [List.length_cons] at h h'
      unfold flatN
      rw [ih m l (by omega) (by omega)]
      split
      · rfl
      · cases hq : flatN m l with
        | none => rfl
        | some y =>
          obtain ⟨a1, r1⟩ := y
          obtain ⟨c, hc, _, _⟩ := flatN_rest m hq
          have hl := congrArg List.length hc
          simp at hl
          simp only
          rw [ih m r1 (by omega) (by omega)]
def flatL (l : List Int) : Option (List Int × List Int) := flatN l.length l
theorem flatL_neg {x : Int} (l : List Int) (h : x < 0) : flatL (x :: l) = some ([x], l) := by simp [flatL, flatN, h]
theorem flatL_rest {l a r : List Int} (h : flatL l = some (a, r)) : ∃ c, l = c ++ r ∧ c ≠ [] ∧ c.length = a.length := flatN_rest _ h
theorem flatL_pos {x : Int} {l a r : List Int} (h : ¬ x < 0) (h1 : flatL l = some (a, r)) : flatL (x :: l) = match flatL r with | none => none | some (b, r') => some (a ++ x :: b, r') := by
  obtain ⟨c, hc, _, _⟩ := flatL_rest h1
  have hl := congrArg List.length hc
  simp at hl
  unfold flatL at h1 ⊢
  rw [List.length_cons]
  conv => lhs; unfold flatN
  rw [if_neg h, h1]
  simp only
  rw [flatN_two l.length r.length r (by omega) (Nat.le_refl _)]
/-- Any numbers in a row, or nothing. -/
def flatA (l : List Int) : Option (List Int) := match flatL l with | some (a, []) => some a | _ => none
theorem flatA_some {l a : List Int} (h : flatL l = some (a, [])) : flatA l = some a := by simp [flatA, h]
/-- Operands and operators in a row, from one operator on. -/
def rowL : Int → Nat → List Int
  | fr, 0 => [-1 - fr]
  | fr, n + 1 => (-1 - fr) :: fr :: rowL (fr + 1) n
theorem rowL_add (i j : Nat) : ∀ fr : Int, rowL fr i ++ (fr + i) :: rowL (fr + i + 1) j = rowL fr (i + 1 + j) := by
  induction i with
  | zero => intro fr; rw [show 0 + 1 + j = j + 1 by omega]; simp [rowL]
  | succ i ih =>
    intro fr
    have := ih (fr + 1)
    rw [show fr + 1 + (i : Int) = fr + ((i + 1 : Nat) : Int) by omega] at this
    rw [show i + 1 + 1 + j = (i + 1 + j) + 1 by omega]
    simp only [rowL, List.cons_append]
    rw [this]
/-- However operators bind, they stand in the row in which they stood. -/
theorem flat_bind {p : List Fx} : ∀ {fr : Int} {c : List Int} (t : List Int), 0 ≤ fr → bindL p fr = some c → flatL (c ++ t) = some (rowL fr p.length, t) := by
  obtain ⟨n, hn⟩ : ∃ n, p.length ≤ n := ⟨_, Nat.le_refl _⟩
  induction n generalizing p with
  | zero =>
    obtain rfl : p = [] := List.eq_nil_of_length_eq_zero (by omega)
    intro fr c t h0 h
    rw [bindL_nil] at h; simp at h
    rw [← h]
    exact flatL_neg _ (by omega)
  | succ n ih =>
    intro fr c t h0 h
    by_cases hp : p = []
    · subst hp
      rw [bindL_nil] at h; simp at h
      rw [← h]
      exact flatL_neg _ (by omega)
    · cases hr : root p with
      | none => rw [bindL_none fr hp hr] at h; cases h
      | some i =>
        have hi := (root_lt hr).1
        rw [bindL_some fr hr] at h
        cases ha : bindL (p.take i) fr with
        | none => rw [ha] at h; simp at h
        | some a =>
          cases hb : bindL (p.drop (i + 1)) (fr + i + 1) with
          | none => rw [ha, hb] at h; simp at h
          | some b =>
            rw [ha, hb] at h
            simp at h
            have fa := ih (p := p.take i) (by simp; omega) (b ++ t) h0 ha
            have fb := ih (p := p.drop (i + 1)) (by simp; omega) t (by omega) hb
            rw [← h, List.cons_append, List.append_assoc, flatL_pos (by omega) fa, fb]
            have l1 : (p.take i).length = i := by simp; omega
            have l2 : (p.drop (i + 1)).length = p.length - (i + 1) := by simp
            simp only
            rw [l1, l2, rowL_add, show i + 1 + (p.length - (i + 1)) = p.length by omega]
theorem flatA_bind {p : List Fx} {c : List Int} (h : bindL p 0 = some c) : flatA c = some (rowL 0 p.length) := by
  have := flat_bind [] (Int.le_refl 0) h
  rw [List.append_nil] at this
  exact flatA_some this
end Go.Proofs.FixMath
/- The mathematics of fixities, fourth part: one more set, in either order; each operator's parts bind closer; one operator over and over. -/
namespace Go.Proofs.FixMath

/-- Whether they may be, together. -/
def checkL (R : Fx → Bool) (l : List Fx) : Int := if 400 < l.length ∨ l.any (fun f => !R f) = true then 40 else if dupB l = true then 41 else 0
theorem check_ok {R : Fx → Bool} {l : List Fx} (h : checkL R l = 0) : l.length ≤ 400 ∧ (∀ f ∈ l, R f = true) ∧ (l.map Fx.key).Nodup := by
  unfold checkL at h
  split at h
  · simp at h
  · rename_i h1
    split at h
    · simp at h
    · rename_i h2
      refine ⟨by omega, fun f hf => ?_, nodup_of (by simpa using h2)⟩
      have : ¬ l.any (fun f => !R f) = true := fun e => h1 (.inr e)
      simp at this
      exact this f hf
/-! One operator, over and over. -/
end Go.Proofs.FixMath
