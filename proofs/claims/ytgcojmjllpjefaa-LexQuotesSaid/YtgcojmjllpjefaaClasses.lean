/- The classes of the program: letters, digits, what follows in names, operators. -/
import Derived.Test.YtgcojmjllpjefaaCls
namespace Go.Proofs.Ytgcojmjllpjefaa
open Go.RowKit Go.Proofs.LexMath

theorem Cls.form {w : World} {v : Value} {p : Int → Bool} (h : Cls w v p) : ∃ f caps, v = .func (.func f) #[] caps := by
  obtain ⟨f, caps, e, _⟩ := h
  exact ⟨f, caps, e⟩
theorem either_any (b : Nat) (vs : List Value) (ps : List (Int → Bool)) (n : Nat) (w : World) (hn : n = ps.length) (hn10 : n ≤ 10) (hb : b < w.heap.size)
    (hc : ∀ i, i < ps.length → w.cell? ⟨b, i, none⟩ = some (vs.getD i default) ∧ Cls w (vs.getD i default) (pred ps i)) :
    Calls Try.prog 56 #[.slice (some ⟨b, 0, none⟩) n n] w (CRet w fun r => ps.any fun p => p r) := by
  have HC := Lib.hid hc
  have HN := Lib.hid hn
  clear hc hn
  go_enter Try.func56, Try.ntmps56
  go_wp2
  go_ret
  have ha : Below w.heap.size w (w.alloc (.cells #[.slice (some ⟨b, 0, none⟩) n n] 79)) := (Below.refl _ _).alloc (Nat.le_refl _) _
  refine ⟨_, rfl, ⟨64, _, rfl, call64, fun r W hW => ?_⟩, ha⟩
  have h1 : W.cell? ⟨w.heap.size, 0, none⟩ = some (.slice (some ⟨b, 0, none⟩) n n) := by
    rw [hW.cell (by simp)]
    exact cell_new w _ _
  have hs := hW.size
  simp at hs
  have HA : Below w.heap.size w W := ha.trans (hW.mono (by simp))
  have HN' := HN.out
  subst HN'
  refine either1_any r _ b vs ps W hn10 (by omega) h1 fun i hi => ?_
  have := HC.out i hi
  exact ⟨by rw [HA.cell (p := ⟨b, i, none⟩) hb]; exact this.1, this.2.below HA⟩
theorem lowers_any (w : World) : Calls Try.prog 32 #[] w (CRet w low) := by
  go_enter Try.func32, Try.ntmps32
  go_wp2_with fail
  refine (between_any _ _ _).mono ?_
  rintro e w1 ⟨v1, rfl, c1, b1⟩
  go_wp2_with fail
  go_ret
  exact ⟨v1, rfl, c1, b1⟩
theorem uppers_any (w : World) : Calls Try.prog 34 #[] w (CRet w upp) := by
  go_enter Try.func34, Try.ntmps34
  go_wp2_with fail
  refine (between_any _ _ _).mono ?_
  rintro e w1 ⟨v1, rfl, c1, b1⟩
  go_wp2_with fail
  go_ret
  exact ⟨v1, rfl, c1, b1⟩
theorem digits_cls (w : World) : Calls Try.prog 48 #[] w (CRet w dgt) := by
  go_enter Try.func48, Try.ntmps48
  go_wp2_with fail
  refine (between_any _ _ _).mono ?_
  rintro e w1 ⟨v1, rfl, c1, b1⟩
  go_wp2_with fail
  go_ret
  exact ⟨v1, rfl, c1, b1⟩
theorem beq_turn (a b : Int) : (a == b) = (b == a) := by rw [Bool.eq_iff_iff, beq_iff_eq, beq_iff_eq]; exact eq_comm
set_option maxRecDepth 100000 in
theorem opr_any (r : Int) : ([33, 36, 37, 38, 42, 43, 45, 47, 58, 60, 61, 62, 63, 64, 94, 124] : Bs).any (fun c => iv c == r) = opr r := by
  simp only [List.any_cons, List.any_nil, Bool.or_false, beq_turn _ r]
  simp only [opr, Bool.or_assoc]
  rfl
theorem und_any (r : Int) : ([95, 39] : Bs).any (fun c => iv c == r) = (r == 95 || r == 39) := by
  simp only [List.any_cons, List.any_nil, Bool.or_false, beq_turn _ r]
  rfl
theorem operators_any (w : World) : Calls Try.prog 36 #[] w (CRet w opr) := by
  go_enter Try.func36, Try.ntmps36
  go_wp2_with fail
  refine (oneOf_any _ _ (by decide) (by decide)).mono ?_
  rintro e w1 ⟨v1, rfl, c1, b1⟩
  go_wp2_with fail
  go_ret
  refine ⟨v1, rfl, c1.congr fun r => ?_, b1⟩
  exact opr_any r
theorem cells_new (w : World) (cs : Array Value) (t : TypeId) (i : Nat) : (w.alloc (.cells cs t)).cell? ⟨w.heap.size, i, none⟩ = cs[i]? := by
  have h := heap_alloc_new w (.cells cs t)
  unfold World.cell?
  rw [h]; rfl
theorem letters_any (w : World) : Calls Try.prog 46 #[] w (CRet w ltr) := by
  go_enter Try.func46, Try.ntmps46
  go_wp2_with fail
  refine (lowers_any _).mono ?_
  rintro e w1 ⟨v1, rfl, c1, b1⟩
  obtain ⟨f1, p1, rfl⟩ := c1.form
  go_wp2_with fail
  refine (uppers_any _).mono ?_
  rintro e w2 ⟨v2, rfl, c2, b2⟩
  obtain ⟨f2, p2, rfl⟩ := c2.form
  have c1' := c1.below b2
  have B2 := b1.trans (b2.mono b1.size)
  clear c1 b1 b2
  go_wp2_with fail
  have ba : Below w2.heap.size w2 (w2.alloc (.cells #[.func (.func f1) #[] p1, .func (.func f2) #[] p2] 49)) := (Below.refl _ _).alloc (Nat.le_refl _) _
  refine (either_any w2.heap.size [.func (.func f1) #[] p1, .func (.func f2) #[] p2] [low, upp] 2 _ rfl (by omega) (by simp) ?_).mono ?_
  · intro i hi
    rw [cells_new]
    have hi' : i = 0 ∨ i = 1 := by simp at hi; omega
    rcases hi' with rfl | rfl
    · exact ⟨rfl, c1'.below ba⟩
    · exact ⟨rfl, c2.below ba⟩
  rintro e w3 ⟨v3, rfl, c3, b3⟩
  go_wp2_with fail
  go_ret
  refine ⟨v3, rfl, c3.congr fun r => by simp [ltr], ?_⟩
  exact B2.trans ((ba.trans (b3.mono (by simp))).mono B2.size)
theorem tails_any (w : World) : Calls Try.prog 33 #[] w (CRet w tl) := by
  go_enter Try.func33, Try.ntmps33
  go_wp2_with fail
  refine (letters_any _).mono ?_
  rintro e w1 ⟨v1, rfl, c1, b1⟩
  obtain ⟨f1, p1, rfl⟩ := c1.form
  go_wp2_with fail
  refine (digits_cls _).mono ?_
  rintro e w2 ⟨v2, rfl, c2, b2⟩
  obtain ⟨f2, p2, rfl⟩ := c2.form
  have c1' := c1.below b2
  have B2 := b1.trans (b2.mono b1.size)
  clear c1 b1 b2
  go_wp2_with fail
  refine (oneOf_any _ _ (by decide) (by decide)).mono ?_
  rintro e w3 ⟨v3, rfl, c3, b3⟩
  obtain ⟨f3, p3, rfl⟩ := c3.form
  have d1 := c1'.below b3
  have d2 := c2.below b3
  have B3 := B2.trans (b3.mono B2.size)
  clear c1' c2 b3 B2
  go_wp2_with fail
  have ba : Below w3.heap.size w3 (w3.alloc (.cells #[.func (.func f1) #[] p1, .func (.func f2) #[] p2, .func (.func f3) #[] p3] 49)) := (Below.refl _ _).alloc (Nat.le_refl _) _
  refine (either_any w3.heap.size [.func (.func f1) #[] p1, .func (.func f2) #[] p2, .func (.func f3) #[] p3] [ltr, dgt, fun r => r == 95 || r == 39] 3 _ rfl (by omega) (by simp) ?_).mono ?_
  · intro i hi
    rw [cells_new]
    have hi' : i = 0 ∨ i = 1 ∨ i = 2 := by simp at hi; omega
    rcases hi' with rfl | rfl | rfl
    · exact ⟨rfl, d1.below ba⟩
    · exact ⟨rfl, d2.below ba⟩
    · exact ⟨rfl, (c3.congr und_any).below ba⟩
  rintro e w4 ⟨v4, rfl, c4, b4⟩
  go_wp2_with fail
  go_ret
  refine ⟨v4, rfl, c4.congr fun r => by simp [tl, Bool.or_assoc], ?_⟩
  exact B3.trans ((ba.trans (b4.mono (by simp))).mono B3.size)
end Go.Proofs.Ytgcojmjllpjefaa
