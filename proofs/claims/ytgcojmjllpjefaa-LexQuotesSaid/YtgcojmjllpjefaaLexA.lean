/- The mathematics of tokens: what the bytes of a text are as tokens, and the text of tokens; nothing of the program is named here. -/
namespace Go.Proofs.LexMath

abbrev Bs := List UInt8
def iv (c : UInt8) : Int := c.toNat
theorem iv_range (c : UInt8) : 0 ≤ iv c ∧ iv c ≤ 255 := by have := c.toNat_lt; unfold iv; omega
theorem iv_inj {a b : UInt8} (h : iv a = iv b) : a = b := by unfold iv at h; exact UInt8.toNat_inj.1 (by omega)

def low (r : Int) : Bool := decide (97 ≤ r) && decide (r ≤ 122)
def upp (r : Int) : Bool := decide (65 ≤ r) && decide (r ≤ 90)
def ltr (r : Int) : Bool := low r || upp r
def dgt (r : Int) : Bool := decide (48 ≤ r) && decide (r ≤ 57)
def tl (r : Int) : Bool := ltr r || dgt r || (r == 95 || r == 39)
def opr (r : Int) : Bool := r == 33 || r == 36 || r == 37 || r == 38 || r == 42 || r == 43 || r == 45 || r == 47 || r == 58 || r == 60 || r == 61 || r == 62 || r == 63 || r == 64 || r == 94 || r == 124
def pln (r : Int) : Bool := decide (32 ≤ r) && decide (r ≤ 126)

/-- How many bytes at the head are of a class. -/
def run (p : Int → Bool) (l : Bs) : Nat := (l.takeWhile fun c => p (iv c)).length
theorem run_le (p : Int → Bool) (l : Bs) : run p l ≤ l.length := by
  unfold run
  induction l with
  | nil => simp
  | cons c l ih => simp only [List.takeWhile_cons]; split <;> simp <;> omega
theorem run_nil (p : Int → Bool) : run p [] = 0 := rfl
theorem run_yes (p : Int → Bool) (c : UInt8) (l : Bs) (h : p (iv c) = true) : run p (c :: l) = run p l + 1 := by simp [run, h]
theorem run_no (p : Int → Bool) (c : UInt8) (l : Bs) (h : p (iv c) = false) : run p (c :: l) = 0 := by simp [run, h]
theorem run_stop (p : Int → Bool) (l x : Bs) (hx : x = [] ∨ ∃ c y, x = c :: y ∧ p (iv c) = false) : run p (l ++ x) = run p l := by
  induction l with
  | nil =>
    rcases hx with rfl | ⟨c, y, rfl, hc⟩
    · rfl
    · rw [List.nil_append, run_no p c y hc]; rfl
  | cons a l ih =>
    by_cases h : p (iv a) = true
    · rw [List.cons_append, run_yes p _ _ h, run_yes p _ _ h, ih]
    · have h' : p (iv a) = false := by simpa using h
      rw [List.cons_append, run_no p _ _ h', run_no p _ _ h']
theorem run_all (p : Int → Bool) (l : Bs) (h : ∀ c ∈ l, p (iv c) = true) : run p l = l.length := by
  induction l with
  | nil => rfl
  | cons a l ih => rw [run_yes p a l (h a (by simp)), ih (fun c hc => h c (by simp [hc]))]; rfl
theorem run_mem (p : Int → Bool) (l : Bs) : ∀ c ∈ l.take (run p l), p (iv c) = true := by
  induction l with
  | nil => simp
  | cons a l ih =>
    by_cases h : p (iv a) = true
    · rw [run_yes p a l h, List.take_succ_cons]
      intro c hc
      rcases List.mem_cons.1 hc with rfl | hc
      · exact h
      · exact ih c hc
    · have h' : p (iv a) = false := by simpa using h
      rw [run_no p a l h']; simp

def keys : List Bs := [[108, 101, 116], [114, 101, 99], [105, 110], [102, 117, 110], [105, 102], [116, 104, 101, 110], [101, 108, 115, 101], [109, 97, 116, 99, 104], [119, 105, 116, 104], [101, 110, 100], [114, 97, 105, 115, 101], [116, 114, 121], [111, 112, 101, 110], [116, 121, 112, 101], [111, 102], [105, 110, 102, 105, 120, 108], [105, 110, 102, 105, 120, 114], [105, 110, 102, 105, 120], [45, 62], [61], [124], [40], [41], [95], [59, 59]]
def key (t : Bs) : Bool := keys.contains t

/-- The byte for which the head of a text stands in a string, and how many bytes that is. -/
def hexv (r : Int) : Int := if 48 ≤ r ∧ r ≤ 57 then r - 48 else if 97 ≤ r ∧ r ≤ 102 then r - 87 else -1
def chr : Bs → Option (UInt8 × Nat)
  | [] => none
  | c :: r =>
    if iv c = 92 then
      match r with
      | [] => none
      | d :: r' =>
        if iv d = 34 ∨ iv d = 92 then some (d, 2)
        else if iv d = 110 then some (10, 2)
        else if iv d = 120 then
          match r' with
          | x :: y :: _ => if 0 ≤ hexv (iv x) ∧ 0 ≤ hexv (iv y) then some (UInt8.ofNat (16 * hexv (iv x) + hexv (iv y)).toNat, 4) else none
          | _ => none
        else none
    else if pln (iv c) then some (c, 1) else none
theorem chr_size {l : Bs} {b : UInt8} {n : Nat} (h : chr l = some (b, n)) : 1 ≤ n ∧ n ≤ l.length := by
  rcases l with _ | ⟨c, r⟩
  · simp [chr] at h
  · simp only [chr] at h
    split at h
    · rcases r with _ | ⟨d, r'⟩
      · simp at h
      · simp only at h
        split at h
        · simp at h; simp [← h.2]
        · split at h
          · simp at h; simp [← h.2]
          · split at h
            · split at h
              · split at h
                · simp at h; simp [← h.2]
                · simp at h
              · simp at h
            · simp at h
    · split at h
      · simp at h; simp [← h.2]
      · simp at h
/-- A string that ends behind its closing sign: its bytes, and how many it takes. -/
def strF : Nat → Bs → Option (Bs × Nat)
  | 0, _ => none
  | _ + 1, [] => none
  | f + 1, c :: r =>
    if iv c = 34 then some ([], 1)
    else match chr (c :: r) with
      | none => none
      | some (b, n) => (strF f ((c :: r).drop n)).map fun x => (b :: x.1, n + x.2)
theorem strF_more : ∀ (f g : Nat) (l : Bs), l.length ≤ f → l.length ≤ g → strF f l = strF g l := by
  intro f
  induction f with
  | zero =>
    intro g l hf hg
    obtain rfl : l = [] := List.eq_nil_of_length_eq_zero (by omega)
    cases g <;> rfl
  | succ f ih =>
    intro g l hf hg
    rcases l with _ | ⟨c, r⟩
    · cases g <;> rfl
    · rcases g with _ | g
      · simp at hg
      · simp only [strF]
        split
        · rfl
        · cases hc : chr (c :: r) with
          | none => rfl
          | some bn =>
            obtain ⟨b, n⟩ := bn
            have hs := chr_size hc
            have hl : ((c :: r).drop n).length = r.length + 1 - n := by simp
            simp only [List.length_cons] at hf hg
            simp only
            rw [ih g ((c :: r).drop n) (by rw [hl]; omega) (by rw [hl]; omega)]
def str (l : Bs) : Option (Bs × Nat) := strF l.length l
theorem str_nil : str [] = none := rfl
theorem str_end (c : UInt8) (r : Bs) (h : iv c = 34) : str (c :: r) = some ([], 1) := by simp [str, strF, h]
theorem str_bad (l : Bs) (hc : chr l = none) (h : ∀ c r, l = c :: r → ¬ iv c = 34) : str l = none := by
  rcases l with _ | ⟨c, r⟩
  · rfl
  · simp [str, strF, h c r rfl, hc]
theorem str_step {l : Bs} {b : UInt8} {n : Nat} (hc : chr l = some (b, n)) (h : ∀ c r, l = c :: r → ¬ iv c = 34) : str l = (str (l.drop n)).map fun x => (b :: x.1, n + x.2) := by
  have hs := chr_size hc
  rcases l with _ | ⟨c, r⟩
  · simp [chr] at hc
  · simp only [str, List.length_cons, strF, h c r rfl, if_false, hc]
    rw [strF_more r.length ((c :: r).drop n).length _ (by simp; omega) (Nat.le_refl _)]

def qbyte (c : UInt8) : Bs :=
  if iv c = 34 ∨ iv c = 92 then [92, c] else if iv c = 10 then [92, 110] else if pln (iv c) then [c]
  else [92, 120, hexd (iv c / 16), hexd (iv c % 16)]
where hexd (n : Int) : UInt8 := UInt8.ofNat (if n < 10 then 48 + n else 87 + n).toNat
def qbody (s : Bs) : Bs := s.flatMap qbyte
def quote (s : Bs) : Bs := 34 :: (qbody s ++ [34])
theorem iv_ofNat (n : Nat) (h : n < 256) : iv (UInt8.ofNat n) = n := by unfold iv; rw [UInt8.toNat_ofNat']; omega
theorem hexv_hexd (n : Int) (h0 : 0 ≤ n) (h1 : n < 16) : hexv (iv (qbyte.hexd n)) = n := by
  unfold qbyte.hexd
  rw [iv_ofNat _ (by split <;> omega)]
  split
  · unfold hexv; rw [if_pos (by omega)]; omega
  · unfold hexv; rw [if_neg (by omega), if_pos (by omega)]; omega
theorem qbyte_chr (c : UInt8) (x : Bs) : chr (qbyte c ++ x) = some (c, (qbyte c).length) ∧ ∀ d r, qbyte c ++ x = d :: r → ¬ iv d = 34 := by
  have hr := iv_range c
  have e92 : iv 92 = 92 := rfl
  unfold qbyte
  by_cases h1 : iv c = 34 ∨ iv c = 92
  · rw [if_pos h1]
    refine ⟨by simp [chr, e92, h1], ?_⟩
    intro d r hd
    simp at hd
    rw [← hd.1, e92]; omega
  · rw [if_neg h1]
    by_cases h2 : iv c = 10
    · rw [if_pos h2]
      have e : c = 10 := iv_inj h2
      refine ⟨?_, ?_⟩
      · subst e
        have e110 : iv 110 = 110 := rfl
        simp [chr, e92, e110]
      · intro d r hd
        simp at hd
        rw [← hd.1, e92]; omega
    · rw [if_neg h2]
      by_cases h3 : pln (iv c) = true
      · rw [if_pos h3]
        refine ⟨?_, ?_⟩
        · have : ¬ iv c = 92 := fun h => h1 (.inr h)
          simp [chr, this, h3]
        · intro d r hd
          simp at hd
          rw [← hd.1]; exact fun h => h1 (.inl h)
      · rw [if_neg h3]
        refine ⟨?_, ?_⟩
        · have e120 : iv 120 = 120 := rfl
          have a1 := hexv_hexd (iv c / 16) (by omega) (by omega)
          have a2 := hexv_hexd (iv c % 16) (by omega) (by omega)
          simp only [List.cons_append, List.nil_append, chr, e92, if_true, e120]
          rw [if_neg (by omega), if_neg (by omega), if_pos ⟨by rw [a1]; omega, by rw [a2]; omega⟩, a1, a2]
          have : (16 * (iv c / 16) + iv c % 16) = iv c := by omega
          rw [this]
          have : UInt8.ofNat (iv c).toNat = c := by
            apply iv_inj
            rw [iv_ofNat _ (by omega)]; omega
          rw [this]
          rfl
        · intro d r hd
          simp at hd
          rw [← hd.1, e92]; omega
theorem str_quote (s x : Bs) : str (qbody s ++ 34 :: x) = some (s, (qbody s).length + 1) := by
  induction s with
  | nil => exact str_end 34 x rfl
  | cons c s ih =>
    obtain ⟨h1, h2⟩ := qbyte_chr c (qbody s ++ 34 :: x)
    have e : qbody (c :: s) ++ 34 :: x = qbyte c ++ (qbody s ++ 34 :: x) := by simp [qbody]
    rw [e, str_step h1 h2, List.drop_left, ih]
    simp [qbody]
    omega
theorem qbyte_len (c : UInt8) : 1 ≤ (qbyte c).length ∧ (qbyte c).length ≤ 4 := by
  unfold qbyte
  split
  · simp
  · split
    · simp
    · split <;> simp
theorem qbody_len (s : Bs) : s.length ≤ (qbody s).length ∧ (qbody s).length ≤ 4 * s.length := by
  induction s with
  | nil => simp [qbody]
  | cons c s ih =>
    have := qbyte_len c
    have e : qbody (c :: s) = qbyte c ++ qbody s := by simp [qbody]
    rw [e]
    simp
    omega
theorem qbyte_plain (c : UInt8) : ∀ d ∈ qbyte c, pln (iv d) = true := by
  have hr := iv_range c
  have e92 : iv 92 = 92 := rfl
  have e110 : iv 110 = 110 := rfl
  have e120 : iv 120 = 120 := rfl
  have hx : ∀ n : Int, 0 ≤ n → n < 16 → pln (iv (qbyte.hexd n)) = true := by
    intro n h0 h1
    unfold qbyte.hexd
    rw [iv_ofNat _ (by split <;> omega)]
    unfold pln
    split <;> simp <;> omega
  unfold qbyte
  by_cases h1 : iv c = 34 ∨ iv c = 92
  · rw [if_pos h1]
    intro d hd
    simp at hd
    rcases hd with rfl | rfl
    · rfl
    · unfold pln; rcases h1 with h | h <;> simp [h]
  · rw [if_neg h1]
    by_cases h2 : iv c = 10
    · rw [if_pos h2]
      intro d hd
      simp at hd
      rcases hd with rfl | rfl <;> rfl
    · rw [if_neg h2]
      by_cases h3 : pln (iv c) = true
      · rw [if_pos h3]
        intro d hd
        simp at hd
        rw [hd]; exact h3
      · rw [if_neg h3]
        intro d hd
        simp at hd
        rcases hd with rfl | rfl | rfl | rfl
        · rfl
        · rfl
        · exact hx _ (by omega) (by omega)
        · exact hx _ (by omega) (by omega)
theorem quote_plain (s : Bs) : ∀ d ∈ quote s, pln (iv d) = true := by
  intro d hd
  unfold quote at hd
  rcases List.mem_cons.1 hd with rfl | hd
  · rfl
  · rcases List.mem_append.1 hd with hd | hd
    · obtain ⟨c, _, hc⟩ := List.mem_flatMap.1 hd
      exact qbyte_plain c d hc
    · simp at hd; subst hd; rfl
end Go.Proofs.LexMath
