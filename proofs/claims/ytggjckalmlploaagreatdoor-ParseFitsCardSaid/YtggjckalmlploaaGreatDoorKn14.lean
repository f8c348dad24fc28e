/- Texts of this seat, one behind the other: LxTokMath. -/
import Derived.Test.YtggjckalmlploaaGreatDoorKn13
/- What a token at a place is, class by class, as the program's token and the document's one say it. -/
namespace Go.Proofs.YtggjckalmlploaaGreatDoor.Lx
open Go.RowKit Go.Proofs.LexMath

def oneV (at_ : Nat) : One → Tok × Int × Int
  | .tok k t v n => (⟨k, bs t, v, 0⟩, ((at_ + n : Nat) : Int), 0)
  | .err e => (⟨0, ⟨#[]⟩, 0, 0⟩, 0, e)
def numV : Option Int → Int × Int
  | none => (0, 11)
  | some v => (v, 0)
theorem read_any (d : ByteArray) (w : World) : Calls Tryz.prog 51 #[.string d] w fun e w' => e = .returned (.tuple #[.int .i64 (numV (num? d.data.toList)).1, .int .i64 (numV (num? d.data.toList)).2]) ∧ Below w.heap.size w w' := by
  cases h : num? d.data.toList with
  | none =>
    have := num_none h
    rw [bs_of] at this
    exact read_no d w this
  | some v =>
    obtain ⟨⟨h1, h2⟩, h3⟩ := num_some h
    have e : shw v = d := list_inj h3
    rw [← e]
    exact read_yes v w h1 h2
theorem cut_form (s : ByteArray) (at_ n : Nat) (h : at_ < s.size) (hn : at_ + 1 + n ≤ s.size) :
    (s.extract at_ (at_ + 1 + n)).data.toList = s[at_] :: (s.data.toList.drop (at_ + 1)).take n ∧ (s.extract at_ (at_ + 1 + n)).size = n + 1 := by
  have h1 : (s.extract at_ (at_ + 1 + n)).data.toList = s[at_] :: (s.data.toList.drop (at_ + 1)).take n := by
    rw [Go.Lib.extract_data, drop_at s at_ h, show at_ + 1 + n - at_ = n + 1 by omega, List.take_succ_cons]
  refine ⟨h1, ?_⟩
  have e : (s.extract at_ (at_ + 1 + n)).size = (s.extract at_ (at_ + 1 + n)).data.toList.length := rfl
  rw [e, h1, List.length_cons, List.length_take, List.length_drop]
  have : s.data.toList.length = s.size := rfl
  omega
theorem head_form {d : ByteArray} {c : UInt8} {r : Bs} (h : d.data.toList = c :: r) : ∃ h0 : 0 < d.size, d[0] = c := by
  have e : d.size = d.data.toList.length := rfl
  have h0 : 0 < d.size := by rw [e, h]; simp
  refine ⟨h0, ?_⟩
  have := drop_at d 0 h0
  rw [List.drop_zero, h] at this
  injection this with h1 _
  exact h1.symm
theorem run_fits (p : Int → Bool) (s : ByteArray) (at_ : Nat) (h : at_ < s.size) : at_ + 1 + run p (s.data.toList.drop (at_ + 1)) ≤ s.size := by
  have h1 := run_le p (s.data.toList.drop (at_ + 1))
  rw [List.length_drop] at h1
  have : s.data.toList.length = s.size := rfl
  omega
/-- The token of a word that is cut out. -/
theorem wrd_cut (k : Int) (s : ByteArray) (at_ n : Nat) (h : at_ < s.size) (hn : at_ + 1 + n ≤ s.size) (d : ByteArray) (hd : s.extract at_ (at_ + 1 + n) = d) :
    oneV at_ (wrd k (s[at_] :: (s.data.toList.drop (at_ + 1)).take n)) = (⟨if key d.data.toList = true then 6 else k, d, 0, 0⟩, ((at_ + 1 + n : Nat) : Int), 0) := by
  subst hd
  obtain ⟨h1, h2⟩ := cut_form s at_ n h hn
  rw [← h1]
  have e : (s.extract at_ (at_ + 1 + n)).data.toList.length = n + 1 := h2
  simp only [wrd, oneV, bs_of, e]
  congr 2
  omega
theorem tok_ltr (s : ByteArray) (at_ : Nat) (h : at_ < s.size) (hc : ltr (iv s[at_]) = true) (d : ByteArray) (hd : s.extract at_ (at_ + 1 + run tl (s.data.toList.drop (at_ + 1))) = d) :
    oneV at_ (one (s.data.toList.drop at_)) = (⟨if key d.data.toList = true then 6 else if low (s[at_].toNat : Int) = true then 1 else 2, d, 0, 0⟩, ((at_ + 1 + run tl (s.data.toList.drop (at_ + 1)) : Nat) : Int), 0) := by
  rw [drop_at s at_ h]
  simp only [one, hc, if_true]
  exact wrd_cut _ s at_ _ h (run_fits tl s at_ h) d hd
theorem tok_num (s : ByteArray) (at_ : Nat) (h : at_ < s.size) (h1 : ltr (iv s[at_]) = false) (hc : iv s[at_] = 126 ∨ dgt (iv s[at_]) = true) (d : ByteArray) (hd : s.extract at_ (at_ + 1 + run dgt (s.data.toList.drop (at_ + 1))) = d) :
    oneV at_ (one (s.data.toList.drop at_)) = match num? d.data.toList with
      | some v => (⟨3, ⟨#[]⟩, v, 0⟩, ((at_ + 1 + run dgt (s.data.toList.drop (at_ + 1)) : Nat) : Int), 0)
      | none => (⟨0, ⟨#[]⟩, 0, 0⟩, 0, 31) := by
  rw [drop_at s at_ h]
  simp only [one, h1, hc, if_true]
  subst hd
  rw [(cut_form s at_ _ h (run_fits dgt s at_ h)).1]
  rw [if_neg (by simp)]
  cases num? (s[at_] :: (s.data.toList.drop (at_ + 1)).take (run dgt (s.data.toList.drop (at_ + 1)))) with
  | none => rfl
  | some v =>
    show (_, _, _) = (_, _, _)
    congr 2
    omega
theorem tok_txt (s : ByteArray) (at_ : Nat) (h : at_ < s.size) (hc : iv s[at_] = 34) :
    oneV at_ (one (s.data.toList.drop at_)) = if (litV at_ (str (s.data.toList.drop (at_ + 1)))).2.2 = true then (⟨4, (litV at_ (str (s.data.toList.drop (at_ + 1)))).1, 0, 0⟩, (litV at_ (str (s.data.toList.drop (at_ + 1)))).2.1, 0) else (⟨0, ⟨#[]⟩, 0, 0⟩, 0, 32) := by
  rw [drop_at s at_ h]
  have e1 : ltr 34 = false := rfl
  have e2 : dgt 34 = false := rfl
  simp only [one, hc, e1, e2]
  cases str (s.data.toList.drop (at_ + 1)) with
  | none => rfl
  | some x =>
    obtain ⟨t, m⟩ := x
    by_cases g : t.length ≤ 200
    · simp [litV, g, oneV]; omega
    · simp [litV, g, oneV]
theorem tok_opr (s : ByteArray) (at_ : Nat) (h : at_ < s.size) (hc : opr (iv s[at_]) = true) (d : ByteArray) (hd : s.extract at_ (at_ + 1 + run opr (s.data.toList.drop (at_ + 1))) = d) :
    oneV at_ (one (s.data.toList.drop at_)) = (⟨if key d.data.toList = true then 6 else 5, d, 0, 0⟩, ((at_ + 1 + run opr (s.data.toList.drop (at_ + 1)) : Nat) : Int), 0) := by
  rw [drop_at s at_ h]
  obtain ⟨e1, e2, e3, _⟩ := cls_opr hc
  simp only [one, hc, e1, e2, e3, if_true]
  exact wrd_cut _ s at_ _ h (run_fits opr s at_ h) d hd
theorem tok_sign (s : ByteArray) (at_ : Nat) (h : at_ < s.size) (hc : iv s[at_] = 40 ∨ iv s[at_] = 41 ∨ iv s[at_] = 95) (d : ByteArray) (hd : s.extract at_ (at_ + 1) = d) :
    oneV at_ (one (s.data.toList.drop at_)) = (⟨6, d, 0, 0⟩, ((at_ + 1 : Nat) : Int), 0) ∧ key d.data.toList = true := by
  have hcut := (cut_form s at_ 0 h (by omega)).1
  simp only [Nat.add_zero, List.take_zero] at hcut
  rw [hd] at hcut
  have e : bs [s[at_]] = d := by rw [← hcut, bs_of]
  have hk : key [s[at_]] = true := by
    rcases hc with g | g | g
    · rw [show s[at_] = 40 from iv_inj g]; rfl
    · rw [show s[at_] = 41 from iv_inj g]; rfl
    · rw [show s[at_] = 95 from iv_inj g]; rfl
  refine ⟨?_, by rw [hcut]; exact hk⟩
  rw [drop_at s at_ h]
  have e1 : ltr (iv s[at_]) = false ∧ ¬ (iv s[at_] = 126 ∨ dgt (iv s[at_]) = true) ∧ ¬ iv s[at_] = 34 ∧ opr (iv s[at_]) = false := by
    rcases hc with g | g | g <;> (rw [g]; decide)
  obtain ⟨e1, e2, e3, e4⟩ := e1
  simp only [one, e1, e2, e3, e4, hc, if_true, if_false, Bool.false_eq_true, oneV, e]
theorem tok_semi (s : ByteArray) (at_ : Nat) (h : at_ + 1 < s.size) (hc : iv s[at_] = 59) (hd : iv s[at_ + 1] = 59) :
    oneV at_ (one (s.data.toList.drop at_)) = (⟨6, ⟨#[59, 59]⟩, 0, 0⟩, ((at_ + 2 : Nat) : Int), 0) := by
  rw [drop_at s at_ (by omega), drop_at s (at_ + 1) h, show s[at_] = 59 from iv_inj hc, show s[at_ + 1] = 59 from iv_inj hd]
  rfl
theorem tok_no (s : ByteArray) (at_ : Nat) (h : at_ < s.size) (h1 : ltr (iv s[at_]) = false) (h2 : ¬ (iv s[at_] = 126 ∨ dgt (iv s[at_]) = true)) (h3 : ¬ iv s[at_] = 34) (h4 : opr (iv s[at_]) = false) (h5 : ¬ (iv s[at_] = 40 ∨ iv s[at_] = 41 ∨ iv s[at_] = 95))
    (h6 : ∀ g : at_ + 1 < s.size, iv s[at_] = 59 → ¬ iv s[at_ + 1] = 59) : oneV at_ (one (s.data.toList.drop at_)) = (⟨0, ⟨#[]⟩, 0, 0⟩, 0, 30) := by
  have hh : ¬ (iv s[at_] = 59 ∧ (s.data.toList.drop (at_ + 1)).head? = some 59) := by
    rintro ⟨g1, g2⟩
    by_cases g : at_ + 1 < s.size
    · rw [drop_at s (at_ + 1) g] at g2
      simp at g2
      exact h6 g g1 (by rw [g2]; rfl)
    · rw [List.drop_eq_nil_of_le (by show s.data.size ≤ _; have : s.size = s.data.size := rfl; omega)] at g2
      cases g2
  rw [drop_at s at_ h]
  simp only [one, h1, h2, h3, h4, h5, hh, if_false, Bool.false_eq_true, oneV]
theorem tl_wide : Wide tl := .inr fun r hr => by simp [tl, ltr, low, upp, dgt]; omega
theorem dgt_wide : Wide dgt := .inr fun r hr => by simp [dgt]; omega
theorem opr_wide : Wide opr := .inr fun r hr => by simp [opr]; omega
end Go.Proofs.YtggjckalmlploaaGreatDoor.Lx
