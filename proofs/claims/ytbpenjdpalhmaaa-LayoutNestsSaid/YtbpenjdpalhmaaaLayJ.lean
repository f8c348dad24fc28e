/- What the laws of layouts say, as mathematics. -/
import Derived.Test.YtbpenjdpalhmaaaLayE
namespace Go.Proofs.Ytbpenjdpalhmaaa
open Go.Proofs.TreeMath
/-! ### But for blanks and line feeds -/
theorem bare_pre (n : Nd) (ind : Nat) (fl : Bool) : bareL (preT n ind fl) = bareL (ownT n) := by
  unfold preT ownT
  split
  · cases fl
    · have h1 : keepC 10 = false := by decide
      have h2 : keepC 32 = false := by decide
      simp only [Bool.false_eq_true, if_false]
      unfold bareL
      rw [List.filter_cons, h1, List.filter_eq_nil_iff.2 (fun x hx => by rw [(List.mem_replicate.1 hx).2, h2]; decide)]
      rw [List.filter_cons, h2]
      rfl
    · rfl
  · rfl
theorem bare_lay (wd : Nat) (f : F) : ∀ ind col fl, bareL (layT wd f ind col fl) = bareL (flatT f) := by
  induction f with
  | nil => intro ind col fl; rfl
  | cons n k r hk hr =>
    intro ind col fl
    simp only [layT, flatT, bareL_append, bare_pre, hk, hr, List.append_assoc]

/-! ### A group -/
def gN : Nd := ⟨44, ByteArray.empty, 0, 1⟩
theorem make_group (ns : List Nd) : makeN ⟨44, ByteArray.empty, 0, 0⟩ [ns] = gN :: ns := by simp [makeN, gN]
theorem whole_one (ks : List Int) : wholeB (1 :: ks) = wholeB ks := by
  rw [Bool.eq_iff_iff, wholeB_iff, wholeB_iff, scan_cons, if_neg (by decide)]
  show Option.map (· + 1) (scan ks 1) = _ ↔ _
  cases scan ks 1 <;> simp
theorem group_no (ns : List Nd) (hn : ns.length ≤ 1000) (h : docB ns = false) : docB (gN :: ns) = false := by
  rw [← Bool.not_eq_true]
  intro hd
  have : docB ns = true := by
    unfold docB at hd ⊢
    simp only [Bool.and_eq_true, decide_eq_true_eq, List.all_cons] at hd ⊢
    refine ⟨⟨by omega, ?_⟩, hd.2.2⟩
    have := hd.1.2
    rw [kk_cons] at this
    rwa [show gN.kids = 1 from rfl, whole_one] at this
  rw [h] at this
  cases this
theorem fine_of {f : F} {ns : List Nd} (hf : IsDoc f ns) : docB ns = true ∧ f.flat = ns := ⟨hf.2.2.2.2.2, hf.2.2.1⟩
theorem group_doc (ns : List Nd) (f : F) (hf : IsDoc f ns) (hn : ns.length ≤ 1000) : IsDoc (.cons gN f .nil) (gN :: ns) := by
  obtain ⟨h1, h2, h3, h4, h5, h6⟩ := hf
  refine ⟨⟨by rw [h2]; rfl, h1, trivial⟩, rfl, by simp [F.flat, h3], ⟨by decide +kernel, by decide +kernel, h4, trivial⟩, by simp; omega, ?_⟩
  unfold docB at h6 ⊢
  simp only [Bool.and_eq_true, decide_eq_true_eq, List.all_cons] at h6 ⊢
  refine ⟨⟨by simp; omega, ?_⟩, by decide +kernel, h6.2⟩
  rw [kk_cons, show gN.kids = 1 from rfl, whole_one]
  exact h6.1.2
theorem group_lay (wd : Nat) (f : F) : layT wd (.cons gN f .nil) 0 0 false = if (flatT f).length ≤ wd then flatT f else layT wd f 0 0 false := by
  have e : layT wd (.cons gN f .nil) 0 0 false = layT wd f 0 0 (grp gN 0 (flatT f).length wd) := by
    rw [lay_inner wd gN 0 0 f (by decide) rfl]
    rfl
  rw [e]
  have e2 : grp gN 0 (flatT f).length wd = decide ((flatT f).length ≤ wd) := by
    unfold grp
    rw [Nat.zero_add]
    rfl
  rw [e2]
  split
  · rename_i h
    rw [decide_eq_true h, lay_flat]
  · rename_i h
    rw [decide_eq_false h]

/-! ### Set in as a whole -/
def indC (n : Nat) (c : UInt8) : List UInt8 := if c = 10 then 10 :: List.replicate n 32 else [c]
def indL (n : Nat) (l : List UInt8) : List UInt8 := l.flatMap (indC n)
theorem indL_append (n : Nat) (a b : List UInt8) : indL n (a ++ b) = indL n a ++ indL n b := by simp [indL]
theorem indL_cons (n : Nat) (c : UInt8) (l : List UInt8) : indL n (c :: l) = indC n c ++ indL n l := by simp [indL]
theorem indL_plain (n : Nat) (l : List UInt8) (h : ∀ x ∈ l, x ≠ 10) : indL n l = l := by
  induction l with
  | nil => rfl
  | cons c l ih =>
    rw [indL_cons, ih fun x hx => h x (by simp [hx])]
    unfold indC
    rw [if_neg (h c (by simp))]
    rfl
theorem rep_plain (n : Nat) : ∀ x ∈ List.replicate n (32 : UInt8), x ≠ 10 := by
  intro x hx
  rw [(List.mem_replicate.1 hx).2]
  decide
theorem colA_ind (n : Nat) (l : List UInt8) : ∀ c, colA (indL n l) (c + n) = colA l c + n := by
  induction l with
  | nil => intro c; rfl
  | cons x l ih =>
    intro c
    rw [indL_cons, colA_append]
    unfold indC
    by_cases hx : x = 10
    · subst hx
      have e : colA (10 :: List.replicate n 32) (c + n) = 0 + n := by
        show colA (List.replicate n 32) 0 = _
        rw [colA_plain _ (rep_plain n), List.length_replicate]
      rw [if_pos rfl, e, ih]
      rfl
    · rw [if_neg hx]
      have e : colA [x] (c + n) = (c + 1) + n := by
        show (if x = 10 then 0 else c + n + 1) = _
        rw [if_neg hx]
        omega
      rw [e, ih]
      show _ = colA l (if x = 10 then 0 else c + 1) + n
      rw [if_neg hx]
theorem ind_pre (nd : Nd) (ind n : Nat) (fl : Bool) (h : okN nd = true) : preT nd (ind + n) fl = indL n (preT nd ind fl) := by
  unfold preT
  split
  · cases fl
    · simp only [Bool.false_eq_true, if_false]
      rw [indL_cons, indL_plain n _ (rep_plain ind)]
      show _ = (10 :: List.replicate n 32) ++ List.replicate ind 32
      rw [List.cons_append, List.replicate_append_replicate, Nat.add_comm]
    · rfl
  · rw [indL_plain]
    intro x hx e
    have := ((okN_text nd h).1 x hx).1
    rw [e] at this
    revert this
    decide
theorem ind_lay (wd n : Nat) (f : F) : f.fine → ∀ ind col fl, layT (wd + n) f (ind + n) (col + n) fl = indL n (layT wd f ind col fl) := by
  induction f with
  | nil => intro _ ind col fl; rfl
  | cons nd k r hk hr =>
    rintro ⟨h1, _, h3, h4⟩ ind col fl
    have e1 := ind_pre nd ind n fl h1
    have e2 : colA (preT nd (ind + n) fl) (col + n) = colA (preT nd ind fl) col + n := by rw [e1, colA_ind]
    have e3 : grp nd (col + n) (flatT k).length (wd + n) = grp nd col (flatT k).length wd := by
      unfold grp
      congr 1
      by_cases h : col + (flatT k).length ≤ wd
      · rw [decide_eq_true h, decide_eq_true (by omega)]
      · rw [decide_eq_false h, decide_eq_false (by omega)]
    have e4 := hk h3 (ind + addI nd) (colA (preT nd ind fl) col) (fl || grp nd col (flatT k).length wd)
    simp only [layT]
    rw [e2, e3, show ind + n + addI nd = ind + addI nd + n by omega, e4, e1, ← indL_append, colA_ind, hr h4, ← indL_append]
def cN : Nd := ⟨45, ByteArray.empty, 0, 2⟩
def tN (n : Nat) : Nd := ⟨43, ByteArray.empty, (n : Int), 1⟩
theorem make_cat (ns : List Nd) : makeN ⟨45, ByteArray.empty, 0, 0⟩ [[nL], ns] = cN :: nL :: ns := by simp [makeN, cN]
theorem make_nest (n : Nat) (ns : List Nd) : makeN ⟨43, ByteArray.empty, (n : Int), 0⟩ [ns] = tN n :: ns := by simp [makeN, tN]
theorem cat_doc (ns : List Nd) (f : F) (hf : IsDoc f ns) (hn : ns.length ≤ 1000) : IsDoc (.cons cN (.cons nL .nil f) .nil) (cN :: nL :: ns) := by
  obtain ⟨h1, h2, h3, h4, h5, h6⟩ := hf
  have ok : (F.cons cN (.cons nL .nil f) .nil).ok := ⟨by simp [F.cnt, h2, cN], ⟨rfl, trivial, h1⟩, trivial⟩
  have hfl : (F.cons cN (.cons nL .nil f) .nil).flat = cN :: nL :: ns := by simp [F.flat, h3]
  refine ⟨ok, rfl, hfl, ⟨by decide +kernel, by decide +kernel, ⟨by decide +kernel, by decide +kernel, trivial, h4⟩, trivial⟩, by simp; omega, ?_⟩
  have hw := whole_flat _ ok rfl
  rw [hfl] at hw
  unfold docB at h6 ⊢
  simp only [Bool.and_eq_true, decide_eq_true_eq, List.all_cons] at h6 ⊢
  exact ⟨⟨by simp; omega, hw⟩, by decide +kernel, by decide +kernel, h6.2⟩
theorem tN_ok (n : Nat) (h : n ≤ 40) : okN (tN n) = true := by
  unfold tN
  rw [ok43]
  simp
  omega
theorem nest_doc (n : Nat) (hn : n ≤ 40) (ns : List Nd) (f : F) (hf : IsDoc f ns) (hl : ns.length ≤ 1000) : IsDoc (.cons (tN n) f .nil) (tN n :: ns) := by
  obtain ⟨h1, h2, h3, h4, h5, h6⟩ := hf
  refine ⟨⟨by rw [h2]; rfl, h1, trivial⟩, rfl, by simp [F.flat, h3], ⟨tN_ok n hn, by show ByteArray.empty.size ≤ 1000000; decide +kernel, h4, trivial⟩, by simp; omega, ?_⟩
  unfold docB at h6 ⊢
  simp only [Bool.and_eq_true, decide_eq_true_eq, List.all_cons] at h6 ⊢
  refine ⟨⟨by simp; omega, ?_⟩, tN_ok n hn, h6.2⟩
  rw [kk_cons, show (tN n).kids = 1 from rfl, whole_one]
  exact h6.1.2
theorem cat_lay (wd ind col : Nat) (f : F) : layT wd (.cons cN (.cons nL .nil f) .nil) ind col false = (10 :: List.replicate ind 32) ++ layT wd f ind ind false := by
  rw [lay_inner wd cN ind col _ (by decide) rfl]
  have e : grp cN col (flatT (.cons nL .nil f)).length wd = false := rfl
  have e2 : layT wd (.cons nL .nil .nil) ind col false = 10 :: List.replicate ind 32 := lay_line_eq wd ByteArray.empty 0 ind col .nil rfl
  rw [e, show ind + addI cN = ind from rfl, lay_cons, e2]
  have e3 : colA (10 :: List.replicate ind 32) col = ind := by
    show colA (List.replicate ind 32) 0 = _
    rw [colA_plain _ (rep_plain ind), List.length_replicate, Nat.zero_add]
  rw [e3]
theorem nest_lay (wd n : Nat) (f : F) (hf : f.fine) : layT (wd + n) (.cons (tN n) (.cons cN (.cons nL .nil f) .nil) .nil) 0 0 false = indL n (layT wd (.cons cN (.cons nL .nil f) .nil) 0 0 false) := by
  rw [lay_inner (wd + n) (tN n) 0 0 _ (by show ¬ (43 : Int) = 42; decide) rfl]
  have e : grp (tN n) 0 (flatT (.cons cN (.cons nL .nil f) .nil)).length (wd + n) = false := rfl
  have e2 : 0 + addI (tN n) = n := by
    show 0 + (if (43 : Int) = 43 then ((n : Int)).toNat else 0) = n
    rw [if_pos rfl, Int.toNat_natCast, Nat.zero_add]
  have e3 := ind_lay wd n f hf 0 0 false
  rw [Nat.zero_add] at e3
  rw [e, e2, cat_lay, cat_lay, e3, indL_append]
  congr 1
  show _ = indL n [10]
  rw [indL_cons]
  show _ = indC n 10 ++ []
  rw [List.append_nil]
  rfl
end Go.Proofs.Ytbpenjdpalhmaaa
