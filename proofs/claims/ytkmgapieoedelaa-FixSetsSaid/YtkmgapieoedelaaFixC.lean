/- The mathematics of fixities, third part: how numbers stand in a row. -/
import Derived.Test.YtkmgapieoedelaaFixB
namespace Go.Proofs.FixMath

/-- The numbers of what a list begins with, in a row, and what is left; in n steps. -/
def flatN : Nat → List Int → Option (List Int × List Int)
  | 0, _ => none
  | _ + 1, [] => none
  | n + 1, x :: l => if x < 0 then some ([x], l) else
    match flatN n l with
    | none => none
    | some (a, r) => match flatN n r with
      | none => none
      | some (b, r') => some (a ++ x :: b, r')
theorem flatN_rest (n : Nat) : ∀ {l a r : List Int}, flatN n l = some (a, r) → ∃ c, l = c ++ r ∧ c ≠ [] ∧ c.length = a.length := by
  induction n with
  | zero => intro l a r h; simp [flatN] at h
  | succ n ih =>
    intro l a r h
    rcases l with _ | ⟨x, l⟩
    · simp [flatN] at h
    · unfold flatN at h
      split at h
      · simp at h; obtain ⟨rfl, rfl⟩ := h; exact ⟨[x], rfl, by simp, by simp⟩
      · cases hq : flatN n l with
        | none => rw [hq] at h; simp at h
        | some y =>
          obtain ⟨a1, r1⟩ := y
          rw [hq] at h
          simp only at h
          cases hq2 : flatN n r1 with
          | none => rw [hq2] at h; simp at h
          | some z =>
            obtain ⟨b, r2⟩ := z
            rw [hq2] at h
            simp at h
            obtain ⟨rfl, rfl⟩ := h
            obtain ⟨c1, rfl, _, l1⟩ := ih hq
            obtain ⟨c2, rfl, _, l2⟩ := ih hq2
            exact ⟨x :: (c1 ++ c2), by simp, by simp, by simp; omega⟩
theorem flatN_two (n : Nat) : ∀ (m : Nat) (l : List Int), l.length ≤ n → l.length ≤ m → flatN n l = flatN m l := by
  induction n with
  | zero =>
    intro m l h _
    obtain rfl : l = [] := List.eq_nil_of_length_eq_zero (by omega)
    cases m <;> rfl
  | succ n ih =>
    intro m l h h'
    rcases l with _ | ⟨x, l⟩
    · cases m <;> rfl
    · obtain ⟨m, rfl⟩ : ∃ k, m = k + 1 := ⟨m - 1, by simp at h'; omega⟩
      simp only [List.length_cons] at h h'
      unfold flatN
      rw [ih m l (by omega) (by omega)]
      split
      · rfl
      · cases hq : flatN m l with
        | none => rfl
        | some y =>
          obtain ⟨a1, r1⟩ := y
          obtain ⟨c, hc, _, _⟩ := flatN_rest m hq
          have hl := congrArg List.length hc
          simp at hl
          simp only
          rw [ih m r1 (by omega) (by omega)]
def flatL (l : List Int) : Option (List Int × List Int) := flatN l.length l
theorem flatL_nil : flatL [] = none := rfl
theorem flatL_neg {x : Int} (l : List Int) (h : x < 0) : flatL (x :: l) = some ([x], l) := by simp [flatL, flatN, h]
theorem flatL_rest {l a r : List Int} (h : flatL l = some (a, r)) : ∃ c, l = c ++ r ∧ c ≠ [] ∧ c.length = a.length := flatN_rest _ h
theorem flatL_no {x : Int} {l : List Int} (h : ¬ x < 0) (h1 : flatL l = none) : flatL (x :: l) = none := by
  unfold flatL at h1 ⊢
  rw [List.length_cons]
  unfold flatN
  rw [if_neg h, h1]
theorem flatL_pos {x : Int} {l a r : List Int} (h : ¬ x < 0) (h1 : flatL l = some (a, r)) : flatL (x :: l) = match flatL r with | none => none | some (b, r') => some (a ++ x :: b, r') := by
  obtain ⟨c, hc, _, _⟩ := flatL_rest h1
  have hl := congrArg List.length hc
  simp at hl
  unfold flatL at h1 ⊢
  rw [List.length_cons]
  conv => lhs; unfold flatN
  rw [if_neg h, h1]
  simp only
  rw [flatN_two l.length r.length r (by omega) (Nat.le_refl _)]
/-- Any numbers in a row, or nothing. -/
def flatA (l : List Int) : Option (List Int) := match flatL l with | some (a, []) => some a | _ => none
theorem flatA_some {l a : List Int} (h : flatL l = some (a, [])) : flatA l = some a := by simp [flatA, h]
theorem flatA_left {l a r : List Int} (h : flatL l = some (a, r)) (hr : r ≠ []) : flatA l = none := by
  unfold flatA; rw [h]
  rcases r with _ | ⟨x, r⟩
  · exact absurd rfl hr
  · rfl
theorem flatA_none {l : List Int} (h : flatL l = none) : flatA l = none := by simp [flatA, h]
theorem flatA_len {l a : List Int} (h : flatA l = some a) : a.length = l.length := by
  unfold flatA at h
  split at h
  · rename_i b hb
    simp at h
    subst h
    obtain ⟨c, rfl, _, hl⟩ := flatL_rest hb
    simpa using hl.symm
  · cases h
/-- By a row of those that are open. -/
def runS : List Int → List Int → List Int → Option (List Int × List Int)
  | [], _, _ => none
  | x :: l, op, acc => if 0 ≤ x then runS l (op ++ [x]) acc else if op = [] then some (acc ++ [x], l) else runS l op.dropLast (acc ++ [x] ++ [op.getLastD 0])
theorem runS_flat (n : Nat) : ∀ (l op acc : List Int), l.length ≤ n → runS l op acc = match flatL l with
    | none => none
    | some (a, r) => if op = [] then some (acc ++ a, r) else runS r op.dropLast (acc ++ a ++ [op.getLastD 0]) := by
  induction n with
  | zero =>
    intro l op acc h
    obtain rfl : l = [] := List.eq_nil_of_length_eq_zero (by omega)
    rfl
  | succ n ih =>
    intro l op acc h
    rcases l with _ | ⟨x, l⟩
    · rfl
    · simp only [List.length_cons] at h
      conv => lhs; unfold runS
      by_cases hx : x < 0
      · rw [if_neg (by omega), flatL_neg l hx]
      · rw [if_pos (by omega), ih l _ _ (by omega)]
        cases hq : flatL l with
        | none => rw [flatL_no hx hq]
        | some y =>
          obtain ⟨a, r⟩ := y
          obtain ⟨c, hc, _, _⟩ := flatL_rest hq
          have hl := congrArg List.length hc
          simp at hl
          rw [flatL_pos hx hq]
          simp only
          rw [if_neg (by simp), List.dropLast_concat, ih r _ _ (by omega)]
          cases flatL r with
          | none => rfl
          | some z => simp [List.getLastD_eq_getLast?]
theorem runS_none {l : List Int} (h : runS l [] [] = none) : flatA l = none := by
  rw [runS_flat l.length l _ _ (Nat.le_refl _)] at h
  refine flatA_none ?_
  cases hq : flatL l with
  | none => rfl
  | some y => rw [hq] at h; simp at h
theorem runS_some {l a r : List Int} (h : runS l [] [] = some (a, r)) : flatA l = if r = [] then some a else none := by
  rw [runS_flat l.length l _ _ (Nat.le_refl _)] at h
  cases hq : flatL l with
  | none => rw [hq] at h; simp at h
  | some y =>
    obtain ⟨a', r'⟩ := y
    rw [hq] at h
    simp at h
    obtain ⟨rfl, rfl⟩ := h
    split
    · rename_i hr; exact flatA_some (by rw [hq, hr])
    · rename_i hr; exact flatA_left hq hr
/-- Operands and operators in a row, from one operator on. -/
def rowL : Int → Nat → List Int
  | fr, 0 => [-1 - fr]
  | fr, n + 1 => (-1 - fr) :: fr :: rowL (fr + 1) n
theorem rowL_len (n : Nat) : ∀ fr, (rowL fr n).length = 2 * n + 1 := by
  induction n with
  | zero => intro fr; rfl
  | succ n ih => intro fr; simp [rowL, ih]; omega
theorem rowL_add (i j : Nat) : ∀ fr : Int, rowL fr i ++ (fr + i) :: rowL (fr + i + 1) j = rowL fr (i + 1 + j) := by
  induction i with
  | zero => intro fr; rw [show 0 + 1 + j = j + 1 by omega]; simp [rowL]
  | succ i ih =>
    intro fr
    have := ih (fr + 1)
    rw [show fr + 1 + (i : Int) = fr + ((i + 1 : Nat) : Int) by omega] at this
    rw [show i + 1 + 1 + j = (i + 1 + j) + 1 by omega]
    simp only [rowL, List.cons_append]
    rw [this]
theorem rowL_even (n : Nat) : ∀ (fr : Int) (i : Nat), i ≤ n → (rowL fr n).getD (2 * i) 0 = -1 - fr - i := by
  induction n with
  | zero => intro fr i h; obtain rfl : i = 0 := by omega
            simp [rowL]
  | succ n ih =>
    intro fr i h
    cases i with
    | zero => simp [rowL]
    | succ i =>
      rw [show 2 * (i + 1) = 2 * i + 1 + 1 by omega]
      simp only [rowL, List.getD_cons_succ]
      rw [ih (fr + 1) i (by omega)]
      omega
theorem rowL_odd (n : Nat) : ∀ (fr : Int) (i : Nat), i < n → (rowL fr n).getD (2 * i + 1) 0 = fr + i := by
  induction n with
  | zero => intro fr i h; omega
  | succ n ih =>
    intro fr i h
    cases i with
    | zero => simp [rowL]
    | succ i =>
      rw [show 2 * (i + 1) + 1 = (2 * i + 1) + 1 + 1 by omega]
      simp only [rowL, List.getD_cons_succ]
      rw [ih (fr + 1) i (by omega)]
      omega
/-- However operators bind, they stand in the row in which they stood. -/
theorem flat_bind {p : List Fx} : ∀ {fr : Int} {c : List Int} (t : List Int), 0 ≤ fr → bindL p fr = some c → flatL (c ++ t) = some (rowL fr p.length, t) := by
  obtain ⟨n, hn⟩ : ∃ n, p.length ≤ n := ⟨_, Nat.le_refl _⟩
  induction n generalizing p with
  | zero =>
    obtain rfl : p = [] := List.eq_nil_of_length_eq_zero (by omega)
    intro fr c t h0 h
    rw [bindL_nil] at h; simp at h
    rw [← h]
    exact flatL_neg _ (by omega)
  | succ n ih =>
    intro fr c t h0 h
    by_cases hp : p = []
    · subst hp
      rw [bindL_nil] at h; simp at h
      rw [← h]
      exact flatL_neg _ (by omega)
    · cases hr : root p with
      | none => rw [bindL_none fr hp hr] at h; cases h
      | some i =>
        have hi := (root_lt hr).1
        rw [bindL_some fr hr] at h
        cases ha : bindL (p.take i) fr with
        | none => rw [ha] at h; simp at h
        | some a =>
          cases hb : bindL (p.drop (i + 1)) (fr + i + 1) with
          | none => rw [ha, hb] at h; simp at h
          | some b =>
            rw [ha, hb] at h
            simp at h
            have fa := ih (p := p.take i) (by simp; omega) (b ++ t) h0 ha
            have fb := ih (p := p.drop (i + 1)) (by simp; omega) t (by omega) hb
            rw [← h, List.cons_append, List.append_assoc, flatL_pos (by omega) fa, fb]
            have l1 : (p.take i).length = i := by simp; omega
            have l2 : (p.drop (i + 1)).length = p.length - (i + 1) := by simp
            simp only
            rw [l1, l2, rowL_add, show i + 1 + (p.length - (i + 1)) = p.length by omega]
theorem flatA_bind {p : List Fx} {c : List Int} (h : bindL p 0 = some c) : flatA c = some (rowL 0 p.length) := by
  have := flat_bind [] (Int.le_refl 0) h
  rw [List.append_nil] at this
  exact flatA_some this
end Go.Proofs.FixMath
