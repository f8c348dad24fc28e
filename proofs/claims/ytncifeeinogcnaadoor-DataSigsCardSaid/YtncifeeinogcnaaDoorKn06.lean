/- Texts of this seat, one behind the other: LxClasses, LxKey, LxSpan, LxStep. -/
import Derived.Test.YtncifeeinogcnaaDoorKn05
import Derived.Lib.TrimUEq
import Derived.Deep.RegionLaw
/- The classes of the program: letters, digits, what follows in names, operators. -/
set_option maxRecDepth 100000
namespace Go.Proofs.YtncifeeinogcnaaDoor.Lx
open Go.RowKit Go.Proofs.LexMath

theorem Cls.form {w : World} {v : Value} {p : Int → Bool} (h : Cls w v p) : ∃ f caps, v = .func (.func f) #[] caps := by
  obtain ⟨f, caps, e, _⟩ := h
  exact ⟨f, caps, e⟩
theorem either_any (b : Nat) (vs : List Value) (ps : List (Int → Bool)) (n : Nat) (w : World) (hn : n = ps.length) (hn10 : n ≤ 10) (hb : b < w.heap.size)
    (hc : ∀ i, i < ps.length → w.cell? ⟨b, i, none⟩ = some (vs.getD i default) ∧ Cls w (vs.getD i default) (pred ps i)) :
    Calls Tryd.prog 85 #[.slice (some ⟨b, 0, none⟩) n n] w (CRet w fun r => ps.any fun p => p r) := by
  have HC := Lib.hid hc
  have HN := Lib.hid hn
  clear hc hn
  go_enter Tryd.func85, Tryd.ntmps85
  go_wp2
  go_ret
  have ha : Below w.heap.size w (w.alloc (.cells #[.slice (some ⟨b, 0, none⟩) n n] 134)) := (Below.refl _ _).alloc (Nat.le_refl _) _
  refine ⟨_, rfl, ⟨_, _, rfl, call64, fun r W hW => ?_⟩, ha⟩
  have h1 : W.cell? ⟨w.heap.size, 0, none⟩ = some (.slice (some ⟨b, 0, none⟩) n n) := by
    rw [hW.cell (by simp)]
    exact cell_new w _ _
  have hs := hW.size
  simp at hs
  have HA : Below w.heap.size w W := ha.trans (hW.mono (by simp))
  have HN' := HN.out
  subst HN'
  refine either1_any r _ b vs ps W hn10 (by omega) h1 fun i hi => ?_
  have := HC.out i hi
  exact ⟨by rw [HA.cell (p := ⟨b, i, none⟩) hb]; exact this.1, this.2.below HA⟩
theorem lowers_any (w : World) : Calls Tryd.prog 71 #[] w (CRet w low) := by
  go_enter Tryd.func71, Tryd.ntmps71
  go_wp2_with fail
  refine (between_any _ _ _).mono ?_
  rintro e w1 ⟨v1, rfl, c1, b1⟩
  go_wp2_with fail
  go_ret
  exact ⟨v1, rfl, c1, b1⟩
theorem uppers_any (w : World) : Calls Tryd.prog 74 #[] w (CRet w upp) := by
  go_enter Tryd.func74, Tryd.ntmps74
  go_wp2_with fail
  refine (between_any _ _ _).mono ?_
  rintro e w1 ⟨v1, rfl, c1, b1⟩
  go_wp2_with fail
  go_ret
  exact ⟨v1, rfl, c1, b1⟩
theorem digits_cls (w : World) : Calls Tryd.prog 87 #[] w (CRet w dgt) := by
  go_enter Tryd.func87, Tryd.ntmps87
  go_wp2_with fail
  refine (between_any _ _ _).mono ?_
  rintro e w1 ⟨v1, rfl, c1, b1⟩
  go_wp2_with fail
  go_ret
  exact ⟨v1, rfl, c1, b1⟩
theorem beq_turn (a b : Int) : (a == b) = (b == a) := by rw [Bool.eq_iff_iff, beq_iff_eq, beq_iff_eq]; exact eq_comm
set_option maxRecDepth 100000 in
theorem opr_any (r : Int) : ([33, 36, 37, 38, 42, 43, 45, 47, 58, 60, 61, 62, 63, 64, 94, 124] : Bs).any (fun c => iv c == r) = opr r := by
  simp only [List.any_cons, List.any_nil, Bool.or_false, beq_turn _ r]
  simp only [opr, Bool.or_assoc]
  rfl
theorem und_any (r : Int) : ([95, 39] : Bs).any (fun c => iv c == r) = (r == 95 || r == 39) := by
  simp only [List.any_cons, List.any_nil, Bool.or_false, beq_turn _ r]
  rfl
theorem operators_any (w : World) : Calls Tryd.prog 76 #[] w (CRet w opr) := by
  go_enter Tryd.func76, Tryd.ntmps76
  go_wp2_with fail
  refine (oneOf_any _ _ (by decide) (by decide)).mono ?_
  rintro e w1 ⟨v1, rfl, c1, b1⟩
  go_wp2_with fail
  go_ret
  refine ⟨v1, rfl, c1.congr fun r => ?_, b1⟩
  exact opr_any r
theorem cells_new (w : World) (cs : Array Value) (t : TypeId) (i : Nat) : (w.alloc (.cells cs t)).cell? ⟨w.heap.size, i, none⟩ = cs[i]? := by
  have h := heap_alloc_new w (.cells cs t)
  unfold World.cell?
  rw [h]; rfl
theorem letters_any (w : World) : Calls Tryd.prog 86 #[] w (CRet w ltr) := by
  go_enter Tryd.func86, Tryd.ntmps86
  go_wp2_with fail
  refine (lowers_any _).mono ?_
  rintro e w1 ⟨v1, rfl, c1, b1⟩
  obtain ⟨f1, p1, rfl⟩ := c1.form
  go_wp2_with fail
  refine (uppers_any _).mono ?_
  rintro e w2 ⟨v2, rfl, c2, b2⟩
  obtain ⟨f2, p2, rfl⟩ := c2.form
  have c1' := c1.below b2
  have B2 := b1.trans (b2.mono b1.size)
  clear c1 b1 b2
  go_wp2_with fail
  have ba : Below w2.heap.size w2 (w2.alloc (.cells #[.func (.func f1) #[] p1, .func (.func f2) #[] p2] 109)) := (Below.refl _ _).alloc (Nat.le_refl _) _
  refine (either_any w2.heap.size [.func (.func f1) #[] p1, .func (.func f2) #[] p2] [low, upp] 2 _ rfl (by omega) (by simp) ?_).mono ?_
  · intro i hi
    rw [cells_new]
    have hi' : i = 0 ∨ i = 1 := by simp at hi; omega
    rcases hi' with rfl | rfl
    · exact ⟨rfl, c1'.below ba⟩
    · exact ⟨rfl, c2.below ba⟩
  rintro e w3 ⟨v3, rfl, c3, b3⟩
  go_wp2_with fail
  go_ret
  refine ⟨v3, rfl, c3.congr fun r => by simp [ltr], ?_⟩
  exact B2.trans ((ba.trans (b3.mono (by simp))).mono B2.size)
theorem tails_any (w : World) : Calls Tryd.prog 72 #[] w (CRet w tl) := by
  go_enter Tryd.func72, Tryd.ntmps72
  go_wp2_with fail
  refine (letters_any _).mono ?_
  rintro e w1 ⟨v1, rfl, c1, b1⟩
  obtain ⟨f1, p1, rfl⟩ := c1.form
  go_wp2_with fail
  refine (digits_cls _).mono ?_
  rintro e w2 ⟨v2, rfl, c2, b2⟩
  obtain ⟨f2, p2, rfl⟩ := c2.form
  have c1' := c1.below b2
  have B2 := b1.trans (b2.mono b1.size)
  clear c1 b1 b2
  go_wp2_with fail
  refine (oneOf_any _ _ (by decide) (by decide)).mono ?_
  rintro e w3 ⟨v3, rfl, c3, b3⟩
  obtain ⟨f3, p3, rfl⟩ := c3.form
  have d1 := c1'.below b3
  have d2 := c2.below b3
  have B3 := B2.trans (b3.mono B2.size)
  clear c1' c2 b3 B2
  go_wp2_with fail
  have ba : Below w3.heap.size w3 (w3.alloc (.cells #[.func (.func f1) #[] p1, .func (.func f2) #[] p2, .func (.func f3) #[] p3] 109)) := (Below.refl _ _).alloc (Nat.le_refl _) _
  refine (either_any w3.heap.size [.func (.func f1) #[] p1, .func (.func f2) #[] p2, .func (.func f3) #[] p3] [ltr, dgt, fun r => r == 95 || r == 39] 3 _ rfl (by omega) (by simp) ?_).mono ?_
  · intro i hi
    rw [cells_new]
    have hi' : i = 0 ∨ i = 1 ∨ i = 2 := by simp at hi; omega
    rcases hi' with rfl | rfl | rfl
    · exact ⟨rfl, d1.below ba⟩
    · exact ⟨rfl, d2.below ba⟩
    · exact ⟨rfl, (c3.congr und_any).below ba⟩
  rintro e w4 ⟨v4, rfl, c4, b4⟩
  go_wp2_with fail
  go_ret
  refine ⟨v4, rfl, c4.congr fun r => by simp [tl, Bool.or_assoc], ?_⟩
  exact B3.trans ((ba.trans (b4.mono (by simp))).mono B3.size)
end Go.Proofs.YtncifeeinogcnaaDoor.Lx
/- The contracts of Key, the program's and the document's: whether a text is one of the words and signs. -/
set_option maxRecDepth 100000
namespace Go.Proofs.YtncifeeinogcnaaDoor.Lx
open Go.RowKit Go.Proofs.LexMath

set_option maxRecDepth 100000 in
set_option maxHeartbeats 1000000 in
theorem key_any (s : ByteArray) (w : World) : Calls Tryd.prog 73 #[.string s] w fun e w' => e = .returned (.bool (key s.data.toList)) ∧ w = w' := by
  go_enter Tryd.func73, Tryd.ntmps73
  go_wp2
  all_goals go_ret
  all_goals (refine ⟨ret_bool ?_, rfl⟩; simp_all [ByteArray.toList_eq, key, keys])
end Go.Proofs.YtncifeeinogcnaaDoor.Lx
/- The contract of span: how far the characters of a class go on from a place. -/
set_option maxRecDepth 100000
namespace Go.Proofs.YtncifeeinogcnaaDoor.Lx
open Go.RowKit Go.Proofs.LexMath

/-- A class that takes all characters of several bytes for the same as one byte from 128 on. -/
def Wide (p : Int → Bool) : Prop := (∀ r, 128 ≤ r → p r = true) ∨ (∀ r, 128 ≤ r → p r = false)
theorem high_bytes (s : ByteArray) (pos : Nat) (h : pos < s.size) (ha : 128 ≤ (s[pos]'h).toNat) :
    pos + (Utf8.decode s pos).2 ≤ s.size ∧ ∀ j, j < (Utf8.decode s pos).2 → 128 ≤ (s.get! (pos + j)).toNat := by
  have hn : ¬ (s[pos]'h).toNat < 128 := by omega
  have h0 : 128 ≤ (s.get! (pos + 0)).toNat := by rw [get_at s pos h]; exact ha
  have one : ∀ j, j < 1 → 128 ≤ (s.get! (pos + j)).toNat := by intro j hj; (obtain rfl : j = 0 := (by omega)); exact h0
  simp only [Utf8.decode, get_at s pos h, hn, if_false]
  split
  · rename_i h2
    simp only [Bool.and_eq_true, decide_eq_true_eq, beq_iff_eq] at h2
    split
    · refine ⟨by simp; omega, fun j hj => ?_⟩
      simp only at hj
      have : j = 0 ∨ j = 1 := by omega
      rcases this with rfl | rfl
      · exact h0
      · omega
    · exact ⟨by simp; omega, one⟩
  · split
    · rename_i h2
      simp only [Bool.and_eq_true, decide_eq_true_eq, beq_iff_eq] at h2
      split
      · refine ⟨by simp; omega, fun j hj => ?_⟩
        simp only at hj
        have : j = 0 ∨ j = 1 ∨ j = 2 := by omega
        rcases this with rfl | rfl | rfl
        · exact h0
        · omega
        · omega
      · exact ⟨by simp; omega, one⟩
    · split
      · rename_i h2
        simp only [Bool.and_eq_true, decide_eq_true_eq, beq_iff_eq] at h2
        split
        · refine ⟨by simp; omega, fun j hj => ?_⟩
          simp only at hj
          have : j = 0 ∨ j = 1 ∨ j = 2 ∨ j = 3 := by omega
          rcases this with rfl | rfl | rfl | rfl
          · exact h0
          · omega
          · omega
          · omega
        · exact ⟨by simp; omega, one⟩
      · exact ⟨by simp; omega, one⟩
theorem run_drop (p : Int → Bool) (l : Bs) (k : Nat) (h : ∀ c ∈ l.take k, p (iv c) = true) (hk : k ≤ l.length) : run p l = k + run p (l.drop k) := by
  induction k generalizing l with
  | zero => simp
  | succ k ih =>
    cases l with
    | nil => simp at hk
    | cons c l =>
      rw [List.take_succ_cons] at h
      rw [run_yes p c l (h c (by simp)), ih l (fun d hd => h d (by simp [hd])) (by simpa using hk), List.drop_succ_cons]
      omega
theorem drop_at (s : ByteArray) (pos : Nat) (h : pos < s.size) : s.data.toList.drop pos = s[pos] :: s.data.toList.drop (pos + 1) := List.drop_eq_getElem_cons (show pos < s.data.toList.length from h)
theorem get_bang (s : ByteArray) (k : Nat) (h : k < s.size) : s.get! k = s[k] := by have := get_at s k h; simpa using this
/-- One character on. -/
theorem run_rune (p : Int → Bool) (hw : Wide p) (s : ByteArray) (pos : Nat) (h : pos < s.size) (hp : p ((Utf8.decode s pos).1 : Nat) = true) :
    pos + (Utf8.decode s pos).2 ≤ s.size ∧ run p (s.data.toList.drop pos) = (Utf8.decode s pos).2 + run p (s.data.toList.drop (pos + (Utf8.decode s pos).2)) := by
  by_cases ha : (s[pos]'h).toNat < 128
  · rw [decode_ascii s pos h ha] at hp ⊢
    refine ⟨h, ?_⟩
    rw [drop_at s pos h, run_yes p _ _ hp]
    exact Nat.add_comm _ _
  · have ha' : 128 ≤ (s[pos]'h).toNat := by omega
    have hi := decode_high s pos h ha'
    obtain ⟨h1, h2⟩ := high_bytes s pos h ha'
    generalize (Utf8.decode s pos).2 = k at *
    generalize (Utf8.decode s pos).1 = r at *
    refine ⟨h1, ?_⟩
    have hall : ∀ x : Int, 128 ≤ x → p x = true := by
      rcases hw with hw | hw
      · exact hw
      · rw [hw r (by omega)] at hp; cases hp
    rw [run_drop p (s.data.toList.drop pos) k ?_ (by rw [List.length_drop]; show k ≤ s.data.size - pos; have : s.size = s.data.size := rfl; omega), List.drop_drop]
    intro c hc
    obtain ⟨j, hj, e⟩ := List.getElem_of_mem hc
    rw [List.length_take] at hj
    rw [List.getElem_take, List.getElem_drop] at e
    have hj' : pos + j < s.size := by omega
    have := h2 j (by omega)
    rw [get_bang s _ hj'] at this
    have e' : s[pos + j] = c := e
    rw [e'] at this
    exact hall _ (by unfold iv; omega)
theorem run_stop_rune (p : Int → Bool) (hw : Wide p) (s : ByteArray) (pos : Nat) (h : pos < s.size) (hp : p ((Utf8.decode s pos).1 : Nat) = false) : run p (s.data.toList.drop pos) = 0 := by
  rw [drop_at s pos h]
  apply run_no
  by_cases ha : (s[pos]'h).toNat < 128
  · rw [decode_ascii s pos h ha] at hp
    exact hp
  · have ha' : 128 ≤ (s[pos]'h).toNat := by omega
    have hi := decode_high s pos h ha'
    rcases hw with hw | hw
    · rw [hw _ (by omega)] at hp; cases hp
    · exact hw _ (by unfold iv; omega)
theorem span_form (s : ByteArray) (at_ : Nat) :
    (s.extract at_ s.size).data.toList = s.data.toList.drop at_ ∧ (s.extract at_ s.size).size = s.size - at_ := by
  have h1 : (s.extract at_ s.size).data.toList = s.data.toList.drop at_ := by
    rw [Go.Lib.extract_data, List.take_of_length_le]
    rw [List.length_drop]
    show s.data.size - at_ ≤ _
    have : s.size = s.data.size := rfl
    omega
  refine ⟨h1, ?_⟩
  have e : (s.extract at_ s.size).size = (s.extract at_ s.size).data.toList.length := rfl
  rw [e, h1, List.length_drop]
  rfl
theorem iter_block (w : World) (s : ByteArray) (pos : Nat) : (w.iter s pos).heap[w.heap.size]? = some (.stringIter s pos) := by
  simp [World.iter_heap]
/-- How the walk over a string stands: its iterator lies in a block of its own. -/
def Goes (w : World) (d : ByteArray) (pos : Nat) (wr : World) : Prop := wr.heap[w.heap.size]? = some (.stringIter d pos) ∧ Below w.heap.size w wr
theorem Goes.size {w wr : World} {d : ByteArray} {pos : Nat} (h : Goes w d pos wr) : w.heap.size < wr.heap.size := (Array.getElem?_eq_some_iff.1 h.1).1
theorem Goes.on {w wr : World} {d : ByteArray} {pos : Nat} (h : Goes w d pos wr) (q : Nat) : Goes w d q (wr.iterAt w.heap.size d q) :=
  ⟨Go.Lib.iterAt_heap wr _ d pos q h.1, Go.Lib.below_iterAt h.2 (Nat.le_refl _) d q⟩
theorem Goes.below {w wr w1 : World} {d : ByteArray} {pos : Nat} (h : Goes w d pos wr) (b : Below wr.heap.size wr w1) : Goes w d pos w1 :=
  ⟨(b.block _ h.size).trans h.1, h.2.trans (b.mono h.2.size)⟩
theorem iterPos_of {w wr : World} {d : ByteArray} {pos : Nat} (h : Goes w d pos wr) : wr.iterPos w.heap.size = pos := by
  simp [World.iterPos, h.1]
/-- The contract of span. -/
theorem span_any (s : ByteArray) (at_ : Nat) (v : Value) (p : Int → Bool) (w : World) (hat : at_ ≤ s.size) (hs : s.size ≤ 1000000000) (hw : Wide p) (hv : Cls w v p) :
    Calls Tryd.prog 83 #[.string s, .int .i64 at_, v] w fun e w' => e = .returned (.int .i64 ((at_ + run p (s.data.toList.drop at_) : Nat) : Int)) ∧ Below w.heap.size w w' := by
  obtain ⟨f, caps, rfl, hf, hcl⟩ := hv
  have HW := Lib.hid hf
  have HC := Lib.hid hcl
  clear hf hcl
  obtain ⟨hx1, hx2⟩ := span_form s at_
  go_enter Tryd.func83, Tryd.ntmps83
  go_wp2
  generalize s.extract at_ s.size = d at *
  have HX := Lib.hid hx1
  have HY := Lib.hid hx2
  have hd1 : d.size ≤ s.size - at_ := by omega
  clear hx1 hx2
  have RUN := Lib.hid (fun pos (h : pos < d.size) => run_rune p hw d pos h)
  have STOP := Lib.hid (fun pos (h : pos < d.size) => run_stop_rune p hw d pos h)
  clear hw
  go_loopw [8] (fun _ wr => ∃ pos : Nat, pos ≤ d.size ∧ Goes w d pos wr ∧ run p (s.data.toList.drop at_) = pos + run p (d.data.toList.drop pos)) (fun _ wr => d.size - wr.iterPos w.heap.size)
  case atStart => exact ⟨0, Nat.zero_le _, ⟨iter_block _ _ _, below_iter _ _ _⟩, by rw [HX.out]; simp⟩
  case round =>
    obtain ⟨wo, hwo⟩ : ∃ wo : World, wo = wr := ⟨_, rfl⟩
    subst hwo
    obtain ⟨pos, hps, hG, hrun⟩ := hrel
    have HG := Lib.hid hG
    have HR := Lib.hid hrun
    clear hrun hG
    by_cases hp : pos < d.size
    · have hnx : ∀ ty, (Instr.next (.pointer (some ⟨w.heap.size, 0, none⟩)) true ty).run Tryd.prog wo = _ := fun ty => Go.Lib.run_next_any_at wo w.heap.size d pos ty HG.out.1 hp
      have h1 := RUN.out pos hp
      have h2 := STOP.out pos hp
      have hr := decode_le d pos
      have hwp := width_pos d pos hp
      have GO := Lib.hid (HG.out.on (pos + (Utf8.decode d pos).2))
      generalize hrr : (Utf8.decode d pos).1 = r at *
      generalize hww : (Utf8.decode d pos).2 = wd at *
      clear hrr hww
      cases hpr : p (r : Int) with
      | true =>
        have H1 := Lib.hid (h1 hpr)
        have HL := HC.out r _ GO.out.2
        rw [hpr] at HL
        have HL := Lib.hid HL
        clear h1 h2 hpr
        go_wp2_with ((refine wpList_call_slot (o := ⟨some 19, _, _, _, _, _⟩) rfl 17 _ _ rfl f caps rfl HW.out (#[.int .i32 r] ++ caps) (by simp [go_sem]) ?_; refine HL.out.mono ?_; rintro e w1 ⟨rfl, hs⟩; refine ⟨_, rfl, ?_⟩; simp only [Act.put, List.setIfInBounds_toArray, List.set_cons_succ, List.set_cons_zero]; have HS := Lib.hid hs; clear hs))
        have g1 := GO.out.below HS.out
        go_roundw
        case rel => exact ⟨pos + wd, H1.out.1, g1, by rw [HR.out, H1.out.2]; omega⟩
        case measure => rw [iterPos_of HG.out, iterPos_of g1]; omega
      | false =>
        have H2 := Lib.hid (h2 hpr)
        have HL := HC.out r _ GO.out.2
        rw [hpr] at HL
        have HL := Lib.hid HL
        clear h1 h2 hpr
        go_wp2_with ((refine wpList_call_slot (o := ⟨some 19, _, _, _, _, _⟩) rfl 17 _ _ rfl f caps rfl HW.out (#[.int .i32 r] ++ caps) (by simp [go_sem]) ?_; refine HL.out.mono ?_; rintro e w1 ⟨rfl, hs⟩; refine ⟨_, rfl, ?_⟩; simp only [Act.put, List.setIfInBounds_toArray, List.set_cons_succ, List.set_cons_zero]; have HS := Lib.hid hs; clear hs))
        go_ret
        refine ⟨ret_int ?_, (GO.out.below HS.out).2⟩
        rw [HR.out, H2.out]
        omega
    · have hnx : ∀ ty, (Instr.next (.pointer (some ⟨w.heap.size, 0, none⟩)) true ty).run Tryd.prog wo = _ := fun ty => Go.Lib.run_next_end_at wo w.heap.size d pos ty HG.out.1 hp
      go_wp2
      go_ret
      refine ⟨ret_int ?_, HG.out.2⟩
      have h3 : pos = d.size := by omega
      have h4 : run p (d.data.toList.drop pos) = 0 := by rw [List.drop_eq_nil_of_le (by rw [h3]; exact Nat.le_refl _), run_nil]
      rw [HR.out, h4]
      have := HY.out
      omega
end Go.Proofs.YtncifeeinogcnaaDoor.Lx
/- Calls as steps of a region that draws its order, as laws for the walk. -/
namespace Go
section
variable {P : Program} {w : World} {ops : Array Oper} {o : Oper} {a : Act} {K : Act → World → Prop} {Q : Exit → Act → World → Prop} {E : Prop}
theorem step_call_fn (hgd : o.guard = none) (f : FuncId) (xs : Array Operand) (ats : Array TypeId)
    (ho : o.op = .call { callee := .value (.func f), args := xs, argTypes := ats }) (hf : ∀ vs w, (callFunc f vs).run P w = .ok (.enter f vs) w) (vs : Array Value) (hx : xs.map a.eval = vs)
    (h : Calls P f vs w fun e w' => ∃ v, e = .returned v ∧ K (a.put o.dst v) w') : if Region.wanted o (yielded ops a.tmps) = true then Oper.wp P o a w K Q else E := by
  have hw : Region.wanted o (yielded ops a.tmps) = true := by simp [Region.wanted, hgd]
  rw [if_pos hw]
  subst hx
  unfold Oper.wp
  have e : execOp a.eval o = callFunc f (xs.map a.eval) := by
    obtain ⟨dst, op, ty, pos, after, guard⟩ := o
    simp only at ho
    subst ho
    simp [execOp, resolve, invoke, Act.eval, Deferred.ofValue]
  rw [e, hf, Oper.upon_enter]
  refine h.mono ?_
  rintro e w' ⟨v, rfl, hw⟩
  exact hw
end
end Go
