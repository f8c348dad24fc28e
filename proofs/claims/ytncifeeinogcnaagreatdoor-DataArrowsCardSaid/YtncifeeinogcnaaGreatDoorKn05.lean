/- Texts of this seat, one behind the other: LxCls, LxClasses, LxKey. -/
import Derived.Test.YtncifeeinogcnaaGreatDoorKn04
import Derived.Lib.Hide
import Derived.Lib.OthersKept
/- Classes of characters: function values that tell whether a character is one of those that are meant. -/
set_option maxRecDepth 100000
namespace Go.Proofs.YtncifeeinogcnaaGreatDoor.Lx
open Go.RowKit Go.Proofs.LexMath

theorem ret_bool {a b : Bool} (h : a = b) : Ending.returned (.bool a) = .returned (.bool b) := by rw [h]
/-- A function value that tells of a character whether it is one of those that are meant. -/
def Cls (w : World) (v : Value) (p : Int → Bool) : Prop :=
  ∃ f caps, v = .func (.func f) #[] caps ∧ (∀ vs W, (callFunc f vs).run Tryz.prog W = .ok (.enter f vs) W) ∧
    ∀ r W, Below w.heap.size w W → Calls Tryz.prog f (#[.int .i32 r] ++ caps) W fun e W' => e = .returned (.bool (p r)) ∧ Below W.heap.size W W'
theorem Cls.below {w w' : World} {v : Value} {p : Int → Bool} (h : Cls w v p) (b : Below w.heap.size w w') : Cls w' v p := by
  obtain ⟨f, caps, rfl, hf, hc⟩ := h
  exact ⟨f, caps, rfl, hf, fun r W hW => hc r W (b.trans (hW.mono b.size))⟩
theorem Cls.congr {w : World} {v : Value} {p q : Int → Bool} (h : Cls w v p) (e : ∀ r, p r = q r) : Cls w v q := (funext e : p = q) ▸ h
/-- A function that returns a class. -/
def CRet (W : World) (p : Int → Bool) (e : Ending) (w' : World) : Prop := ∃ v, e = .returned v ∧ Cls w' v p ∧ Below W.heap.size W w'
theorem CRet.congr {W w' : World} {p q : Int → Bool} {e : Ending} (h : CRet W p e w') (g : ∀ r, p r = q r) : CRet W q e w' := (funext g : p = q) ▸ h

theorem between1_any (r a b : Int) (x y : Nat) (w : World) (hx : w.cell? ⟨x, 0, none⟩ = some (.int .i32 a)) (hy : w.cell? ⟨y, 0, none⟩ = some (.int .i32 b)) :
    Calls Tryz.prog 174 #[.int .i32 r, .pointer (some ⟨x, 0, none⟩), .pointer (some ⟨y, 0, none⟩)] w fun e w' => e = .returned (.bool (decide (a ≤ r) && decide (r ≤ b))) ∧ w = w' := by
  by_cases h : a ≤ r
  · have h1 : decide (a ≤ r) = true := by simpa using h
    go_enter Tryz.func174, Tryz.ntmps174
    go_wp2
    go_ret
    exact ⟨ret_bool (by simp [h]), rfl⟩
  · have h1 : decide (a ≤ r) = false := by simpa using h
    go_enter Tryz.func174, Tryz.ntmps174
    go_wp2
    go_ret
    exact ⟨ret_bool (by simp), rfl⟩
theorem cell_new (w : World) (v : Value) (t : TypeId) : (w.alloc (.cells #[v] t)).cell? ⟨w.heap.size, 0, none⟩ = some v := by
  have h := heap_alloc_new w (.cells #[v] t)
  unfold World.cell?
  rw [h]; rfl
theorem between_any (a b : Int) (w : World) : Calls Tryz.prog 161 #[.int .i32 a, .int .i32 b] w (CRet w fun r => decide (a ≤ r) && decide (r ≤ b)) := by
  go_enter Tryz.func161, Tryz.ntmps161
  go_wp2
  go_ret
  refine ⟨_, rfl, ⟨_, _, rfl, call63, fun r W hW => ?_⟩, ((Below.refl _ _).alloc (Nat.le_refl _) _).alloc (by simp) _⟩
  have h1 : W.cell? ⟨w.heap.size, 0, none⟩ = some (.int .i32 a) := by
    rw [hW.cell (by simp; omega)]
    rw [World.cell?_alloc_lt _ _ _ (by simp)]
    exact cell_new w _ _
  have h2 : W.cell? ⟨w.heap.size + 1, 0, none⟩ = some (.int .i32 b) := by
    rw [hW.cell (by simp)]
    simp
  refine (between1_any r a b _ _ W h1 h2).mono ?_
  rintro e w' ⟨rfl, rfl⟩
  exact ⟨rfl, Below.refl _ _⟩

set_option maxHeartbeats 400000 in
theorem oneOf1_any (r : Int) (s : ByteArray) (x : Nat) (w : World) (hs : ∀ i (h : i < s.size), (s[i]'h).toNat < 128) (hx : w.cell? ⟨x, 0, none⟩ = some (.string s)) (_hm : s.size ≤ 1000) :
    Calls Tryz.prog 176 #[.int .i32 r, .pointer (some ⟨x, 0, none⟩)] w fun e w' => e = .returned (.bool (s.data.toList.any fun c => iv c == r)) ∧ Below w.heap.size w w' := by
  have bi := below_iter w s
  have si := size_iter w s
  have HS := Lib.hid hs
  clear hs
  go_enter Tryz.func176, Tryz.ntmps176
  go_wp2
  go_loopw [5] (fun a wr => ∃ pos : Nat, pos ≤ s.size ∧ wr = w.iter s pos ∧ (s.data.toList.take pos).any (fun c => iv c == r) = false) (fun _ wr => s.size - wr.iterPos w.heap.size)
  case atStart => exact ⟨0, Nat.zero_le _, rfl, rfl⟩
  case round =>
    obtain ⟨pos, hps, rfl, hn⟩ := hrel
    have HN := Lib.hid hn
    clear hn
    by_cases hp : pos < s.size
    · have hnx : ∀ ty, (Instr.next (.pointer (some ⟨w.heap.size, 0, none⟩)) true ty).run Tryz.prog (w.iter s pos) = _ := fun ty => run_next_ascii w s pos ty hp (HS.out pos hp)
      have hl : pos < s.data.toList.length := hp
      have e : s.data.toList.take (pos + 1) = s.data.toList.take pos ++ [s[pos]] := by rw [List.take_succ_eq_append_getElem hl]; rfl
      have HE := Lib.hid e
      clear e
      obtain ⟨c, hc⟩ : ∃ c, c = s[pos] := ⟨_, rfl⟩
      rw [← hc] at hnx
      have HC := Lib.hid hc
      clear hc
      go_wp2
      · go_ret
        refine ⟨ret_bool ?_, bi _⟩
        have hcr : ((c.toNat : Int) == r) = true := by assumption
        symm
        rw [List.any_eq_true]
        exact ⟨c, by rw [HC.out]; exact List.getElem_mem hl, hcr⟩
      · go_roundw
        case rel =>
          have hcr : ((c.toNat : Int) == r) = false := by assumption
          exact ⟨pos + 1, by omega, rfl, by rw [HE.out, List.any_append, HN.out, ← HC.out]; simpa [iv] using hcr⟩
        case measure => simp; omega
    · have hnx : ∀ ty, (Instr.next (.pointer (some ⟨w.heap.size, 0, none⟩)) true ty).run Tryz.prog (w.iter s pos) = _ := fun ty => run_next_end w s pos ty hp
      go_wp2
      go_ret
      refine ⟨ret_bool ?_, bi _⟩
      rw [← HN.out, List.take_of_length_le (by show s.data.size ≤ pos; have : s.size = s.data.size := rfl; omega)]
theorem oneOf_any (s : ByteArray) (w : World) (hs : ∀ i (h : i < s.size), (s[i]'h).toNat < 128) (hm : s.size ≤ 1000) : Calls Tryz.prog 165 #[.string s] w (CRet w fun r => s.data.toList.any fun c => iv c == r) := by
  have HS := Lib.hid hs
  clear hs
  go_enter Tryz.func165, Tryz.ntmps165
  go_wp2
  go_ret
  refine ⟨_, rfl, ⟨_, _, rfl, call65, fun r W hW => ?_⟩, (Below.refl _ _).alloc (Nat.le_refl _) _⟩
  have h1 : W.cell? ⟨w.heap.size, 0, none⟩ = some (.string s) := by
    rw [hW.cell (by simp)]
    exact cell_new w _ _
  exact oneOf1_any r s _ W HS.out h1 hm
def pred (ps : List (Int → Bool)) (k : Nat) : Int → Bool := ps.getD k fun _ => false
theorem any_take (ps : List (Int → Bool)) (r : Int) (k : Nat) (h : k < ps.length) : (ps.take (k + 1)).any (fun p => p r) = ((ps.take k).any (fun p => p r) || pred ps k r) := by
  rw [List.take_succ_eq_append_getElem h, List.any_append]
  have e : pred ps k = ps[k] := by simp [pred, List.getD_eq_getElem?_getD, List.getElem?_eq_getElem h]
  rw [e]
  simp only [List.any_cons, List.any_nil, Bool.or_false]
set_option maxHeartbeats 400000 in
theorem either1_any (r : Int) (g b : Nat) (vs : List Value) (ps : List (Int → Bool)) (w : World) (hn : ps.length ≤ 10) (hb : b < w.heap.size)
    (hx : w.cell? ⟨g, 0, none⟩ = some (.slice (some ⟨b, 0, none⟩) ps.length ps.length)) (hc : ∀ i, i < ps.length → w.cell? ⟨b, i, none⟩ = some (vs.getD i default) ∧ Cls w (vs.getD i default) (pred ps i)) :
    Calls Tryz.prog 175 #[.int .i32 r, .pointer (some ⟨g, 0, none⟩)] w fun e w' => e = .returned (.bool (ps.any fun p => p r)) ∧ Below w.heap.size w w' := by
  have HC := Lib.hid hc
  clear hc
  obtain ⟨n, hn'⟩ : ∃ n, n = ps.length := ⟨_, rfl⟩
  rw [← hn'] at hx hn
  have HNN := Lib.hid hn'
  clear hn'
  go_enter Tryz.func175, Tryz.ntmps175
  go_wp2
  go_loopw [8] (fun i wr => ∃ k : Nat, k ≤ n ∧ i = .int .i64 k ∧ Below w.heap.size w wr ∧ (ps.take k).any (fun p => p r) = false) (fun i _ => n - (intOf i).toNat)
  case atStart => exact ⟨0, Nat.zero_le _, rfl, Below.refl _ _, rfl⟩
  case round =>
    obtain ⟨wo, hwo⟩ : ∃ wo : World, wo = wr := ⟨_, rfl⟩
    subst hwo
    obtain ⟨k, hk, rfl, hbl, hf⟩ := hrel
    have HF := Lib.hid hf
    clear hf
    by_cases hlt : k < n
    · obtain ⟨h1, f, caps, hv, hf, hcl⟩ := HC.out k (by rw [← HNN.out]; exact hlt)
      rw [hv, ← hbl.cell (p := ⟨b, k, none⟩) hb] at h1
      have HW := Lib.hid hf
      have HL := Lib.hid (hcl r wo hbl)
      have HB := Lib.hid hbl
      clear hf hcl hbl hv hx
      have e := any_take ps r k (by rw [← HNN.out]; exact hlt)
      rw [HF.out, Bool.false_or] at e
      have HE := Lib.hid e
      clear e
      by_cases hp : pred ps k r = true
      · have HP := Lib.hid hp
        have HL' := HL.out
        rw [hp] at HL'
        have HL := Lib.hid HL'
        clear hp HL'
        go_wp2_with ((refine wpList_call_slot (o := ⟨some 14, _, _, _, _, _⟩) rfl 12 _ _ rfl f caps rfl HW.out (#[.int .i32 r] ++ caps) (by simp [go_sem]) ?_; refine HL.out.mono ?_; rintro e w1 ⟨rfl, hs⟩; refine ⟨_, rfl, ?_⟩; simp only [Act.put, List.setIfInBounds_toArray, List.set_cons_succ, List.set_cons_zero]; have HS := Lib.hid hs; clear hs))
        go_ret
        refine ⟨ret_bool ?_, HB.out.trans (HS.out.mono HB.out.size)⟩
        have h1 : (ps.take (k + 1)).any (fun p => p r) = true := by rw [HE.out, HP.out]
        rw [List.any_eq_true] at h1
        obtain ⟨q, hq, hq'⟩ := h1
        exact (List.any_eq_true.2 ⟨q, List.mem_of_mem_take hq, hq'⟩).symm
      · have hp' : pred ps k r = false := by simpa using hp
        have HP := Lib.hid hp'
        have HL' := HL.out
        rw [hp'] at HL'
        have HL := Lib.hid HL'
        clear hp hp' HL'
        go_wp2_with ((refine wpList_call_slot (o := ⟨some 14, _, _, _, _, _⟩) rfl 12 _ _ rfl f caps rfl HW.out (#[.int .i32 r] ++ caps) (by simp [go_sem]) ?_; refine HL.out.mono ?_; rintro e w1 ⟨rfl, hs⟩; refine ⟨_, rfl, ?_⟩; simp only [Act.put, List.setIfInBounds_toArray, List.set_cons_succ, List.set_cons_zero]; have HS := Lib.hid hs; clear hs))
        go_roundw
        case rel => exact ⟨k + 1, by omega, by go_num, HB.out.trans (HS.out.mono HB.out.size), by rw [HE.out, HP.out]⟩
        case measure => simp [intOf]; omega
    · go_wp2
      go_ret
      refine ⟨ret_bool ?_, hbl⟩
      rw [← HF.out, List.take_of_length_le (by rw [← HNN.out]; omega)]
end Go.Proofs.YtncifeeinogcnaaGreatDoor.Lx
/- The classes of the program: letters, digits, what follows in names, operators. -/
set_option maxRecDepth 100000
namespace Go.Proofs.YtncifeeinogcnaaGreatDoor.Lx
open Go.RowKit Go.Proofs.LexMath

theorem Cls.form {w : World} {v : Value} {p : Int → Bool} (h : Cls w v p) : ∃ f caps, v = .func (.func f) #[] caps := by
  obtain ⟨f, caps, e, _⟩ := h
  exact ⟨f, caps, e⟩
theorem either_any (b : Nat) (vs : List Value) (ps : List (Int → Bool)) (n : Nat) (w : World) (hn : n = ps.length) (hn10 : n ≤ 10) (hb : b < w.heap.size)
    (hc : ∀ i, i < ps.length → w.cell? ⟨b, i, none⟩ = some (vs.getD i default) ∧ Cls w (vs.getD i default) (pred ps i)) :
    Calls Tryz.prog 162 #[.slice (some ⟨b, 0, none⟩) n n] w (CRet w fun r => ps.any fun p => p r) := by
  have HC := Lib.hid hc
  have HN := Lib.hid hn
  clear hc hn
  go_enter Tryz.func162, Tryz.ntmps162
  go_wp2
  go_ret
  have ha : Below w.heap.size w (w.alloc (.cells #[.slice (some ⟨b, 0, none⟩) n n] 215)) := (Below.refl _ _).alloc (Nat.le_refl _) _
  refine ⟨_, rfl, ⟨_, _, rfl, call64, fun r W hW => ?_⟩, ha⟩
  have h1 : W.cell? ⟨w.heap.size, 0, none⟩ = some (.slice (some ⟨b, 0, none⟩) n n) := by
    rw [hW.cell (by simp)]
    exact cell_new w _ _
  have hs := hW.size
  simp at hs
  have HA : Below w.heap.size w W := ha.trans (hW.mono (by simp))
  have HN' := HN.out
  subst HN'
  refine either1_any r _ b vs ps W hn10 (by omega) h1 fun i hi => ?_
  have := HC.out i hi
  exact ⟨by rw [HA.cell (p := ⟨b, i, none⟩) hb]; exact this.1, this.2.below HA⟩
theorem lowers_any (w : World) : Calls Tryz.prog 138 #[] w (CRet w low) := by
  go_enter Tryz.func138, Tryz.ntmps138
  go_wp2_with fail
  refine (between_any _ _ _).mono ?_
  rintro e w1 ⟨v1, rfl, c1, b1⟩
  go_wp2_with fail
  go_ret
  exact ⟨v1, rfl, c1, b1⟩
theorem uppers_any (w : World) : Calls Tryz.prog 141 #[] w (CRet w upp) := by
  go_enter Tryz.func141, Tryz.ntmps141
  go_wp2_with fail
  refine (between_any _ _ _).mono ?_
  rintro e w1 ⟨v1, rfl, c1, b1⟩
  go_wp2_with fail
  go_ret
  exact ⟨v1, rfl, c1, b1⟩
theorem digits_cls (w : World) : Calls Tryz.prog 164 #[] w (CRet w dgt) := by
  go_enter Tryz.func164, Tryz.ntmps164
  go_wp2_with fail
  refine (between_any _ _ _).mono ?_
  rintro e w1 ⟨v1, rfl, c1, b1⟩
  go_wp2_with fail
  go_ret
  exact ⟨v1, rfl, c1, b1⟩
theorem beq_turn (a b : Int) : (a == b) = (b == a) := by rw [Bool.eq_iff_iff, beq_iff_eq, beq_iff_eq]; exact eq_comm
set_option maxRecDepth 100000 in
theorem opr_any (r : Int) : ([33, 36, 37, 38, 42, 43, 45, 47, 58, 60, 61, 62, 63, 64, 94, 124] : Bs).any (fun c => iv c == r) = opr r := by
  simp only [List.any_cons, List.any_nil, Bool.or_false, beq_turn _ r]
  simp only [opr, Bool.or_assoc]
  rfl
theorem und_any (r : Int) : ([95, 39] : Bs).any (fun c => iv c == r) = (r == 95 || r == 39) := by
  simp only [List.any_cons, List.any_nil, Bool.or_false, beq_turn _ r]
  rfl
theorem operators_any (w : World) : Calls Tryz.prog 143 #[] w (CRet w opr) := by
  go_enter Tryz.func143, Tryz.ntmps143
  go_wp2_with fail
  refine (oneOf_any _ _ (by decide) (by decide)).mono ?_
  rintro e w1 ⟨v1, rfl, c1, b1⟩
  go_wp2_with fail
  go_ret
  refine ⟨v1, rfl, c1.congr fun r => ?_, b1⟩
  exact opr_any r
theorem cells_new (w : World) (cs : Array Value) (t : TypeId) (i : Nat) : (w.alloc (.cells cs t)).cell? ⟨w.heap.size, i, none⟩ = cs[i]? := by
  have h := heap_alloc_new w (.cells cs t)
  unfold World.cell?
  rw [h]; rfl
theorem letters_any (w : World) : Calls Tryz.prog 163 #[] w (CRet w ltr) := by
  go_enter Tryz.func163, Tryz.ntmps163
  go_wp2_with fail
  refine (lowers_any _).mono ?_
  rintro e w1 ⟨v1, rfl, c1, b1⟩
  obtain ⟨f1, p1, rfl⟩ := c1.form
  go_wp2_with fail
  refine (uppers_any _).mono ?_
  rintro e w2 ⟨v2, rfl, c2, b2⟩
  obtain ⟨f2, p2, rfl⟩ := c2.form
  have c1' := c1.below b2
  have B2 := b1.trans (b2.mono b1.size)
  clear c1 b1 b2
  go_wp2_with fail
  have ba : Below w2.heap.size w2 (w2.alloc (.cells #[.func (.func f1) #[] p1, .func (.func f2) #[] p2] 187)) := (Below.refl _ _).alloc (Nat.le_refl _) _
  refine (either_any w2.heap.size [.func (.func f1) #[] p1, .func (.func f2) #[] p2] [low, upp] 2 _ rfl (by omega) (by simp) ?_).mono ?_
  · intro i hi
    rw [cells_new]
    have hi' : i = 0 ∨ i = 1 := by simp at hi; omega
    rcases hi' with rfl | rfl
    · exact ⟨rfl, c1'.below ba⟩
    · exact ⟨rfl, c2.below ba⟩
  rintro e w3 ⟨v3, rfl, c3, b3⟩
  go_wp2_with fail
  go_ret
  refine ⟨v3, rfl, c3.congr fun r => by simp [ltr], ?_⟩
  exact B2.trans ((ba.trans (b3.mono (by simp))).mono B2.size)
theorem tails_any (w : World) : Calls Tryz.prog 139 #[] w (CRet w tl) := by
  go_enter Tryz.func139, Tryz.ntmps139
  go_wp2_with fail
  refine (letters_any _).mono ?_
  rintro e w1 ⟨v1, rfl, c1, b1⟩
  obtain ⟨f1, p1, rfl⟩ := c1.form
  go_wp2_with fail
  refine (digits_cls _).mono ?_
  rintro e w2 ⟨v2, rfl, c2, b2⟩
  obtain ⟨f2, p2, rfl⟩ := c2.form
  have c1' := c1.below b2
  have B2 := b1.trans (b2.mono b1.size)
  clear c1 b1 b2
  go_wp2_with fail
  refine (oneOf_any _ _ (by decide) (by decide)).mono ?_
  rintro e w3 ⟨v3, rfl, c3, b3⟩
  obtain ⟨f3, p3, rfl⟩ := c3.form
  have d1 := c1'.below b3
  have d2 := c2.below b3
  have B3 := B2.trans (b3.mono B2.size)
  clear c1' c2 b3 B2
  go_wp2_with fail
  have ba : Below w3.heap.size w3 (w3.alloc (.cells #[.func (.func f1) #[] p1, .func (.func f2) #[] p2, .func (.func f3) #[] p3] 187)) := (Below.refl _ _).alloc (Nat.le_refl _) _
  refine (either_any w3.heap.size [.func (.func f1) #[] p1, .func (.func f2) #[] p2, .func (.func f3) #[] p3] [ltr, dgt, fun r => r == 95 || r == 39] 3 _ rfl (by omega) (by simp) ?_).mono ?_
  · intro i hi
    rw [cells_new]
    have hi' : i = 0 ∨ i = 1 ∨ i = 2 := by simp at hi; omega
    rcases hi' with rfl | rfl | rfl
    · exact ⟨rfl, d1.below ba⟩
    · exact ⟨rfl, d2.below ba⟩
    · exact ⟨rfl, (c3.congr und_any).below ba⟩
  rintro e w4 ⟨v4, rfl, c4, b4⟩
  go_wp2_with fail
  go_ret
  refine ⟨v4, rfl, c4.congr fun r => by simp [tl, Bool.or_assoc], ?_⟩
  exact B3.trans ((ba.trans (b4.mono (by simp))).mono B3.size)
end Go.Proofs.YtncifeeinogcnaaGreatDoor.Lx
/- The contracts of Key, the program's and the document's: whether a text is one of the words and signs. -/
set_option maxRecDepth 100000
namespace Go.Proofs.YtncifeeinogcnaaGreatDoor.Lx
open Go.RowKit Go.Proofs.LexMath

set_option maxRecDepth 100000 in
set_option maxHeartbeats 1000000 in
theorem key_any (s : ByteArray) (w : World) : Calls Tryz.prog 140 #[.string s] w fun e w' => e = .returned (.bool (key s.data.toList)) ∧ w = w' := by
  go_enter Tryz.func140, Tryz.ntmps140
  go_wp2
  all_goals go_ret
  all_goals (refine ⟨ret_bool ?_, rfl⟩; simp_all [ByteArray.toList_eq, key, keys])
def keyVals : List Value := keys.map fun k => .string (bs k)
theorem words_any (w : World) : Calls Tryz.prog 119 #[] w fun e w' => e = .returned (.slice (some ⟨w.heap.size, 0, none⟩) 25 25) ∧ w.alloc (.cells keyVals.toArray 9) = w' := by
  go_enter Tryz.func119, Tryz.ntmps119
  go_wp2
  go_ret
  exact ⟨rfl, rfl⟩
theorem take_contains (L : List Bs) (s : Bs) (k : Nat) (hl : k < L.length) : (L.take (k + 1)).contains s = ((L.take k).contains s || (L.getD k [] == s)) := by
  rw [List.take_succ_eq_append_getElem hl, Bool.eq_iff_iff]
  have e : L.getD k [] = L[k] := by simp [List.getD_eq_getElem?_getD, List.getElem?_eq_getElem hl]
  rw [e]
  simp only [List.contains_eq_mem, decide_eq_true_eq, List.mem_append, List.mem_singleton, Bool.or_eq_true, beq_iff_eq]
  constructor <;> rintro (h | h) <;> first | exact .inl h | exact .inr h.symm
theorem keys_take (s : Bs) (k : Nat) (h : k < 25) : (keys.take (k + 1)).contains s = ((keys.take k).contains s || (keys.getD k [] == s)) := take_contains keys s k h
set_option maxRecDepth 100000 in
set_option maxHeartbeats 400000 in
theorem rkey_any (s : ByteArray) (w : World) : Calls Tryz.prog 91 #[.string s] w fun e w' => e = .returned (.bool (key s.data.toList)) ∧ Below w.heap.size w w' := by
  have hcell : ∀ k, k < 25 → (w.alloc (.cells keyVals.toArray 9)).cell? ⟨w.heap.size, k, none⟩ = some (.string (bs (keys.getD k []))) := by
    intro k hk
    rw [cells_new]
    have hl : k < keys.length := hk
    simp [keyVals, List.getElem?_eq_getElem hl, List.getD_eq_getElem?_getD]
  have ba : Below w.heap.size w (w.alloc (.cells keyVals.toArray 9)) := (Below.refl _ _).alloc (Nat.le_refl _) _
  have HB := Lib.hid ba
  have HC := Lib.hid hcell
  clear ba hcell
  go_enter Tryz.func91, Tryz.ntmps91
  go_wp2_with fail
  refine (words_any _).mono ?_
  rintro e w1 ⟨rfl, hw1⟩
  have HC1 : Hid (∀ k, k < 25 → w1.cell? ⟨w.heap.size, k, none⟩ = some (.string (bs (keys.getD k [])))) := by rw [← hw1]; exact HC.out
  have HB1 : Hid (Below w.heap.size w w1) := by rw [← hw1]; exact HB.out
  clear hw1 HB HC
  go_wp2
  go_loop [4] (fun i => ∃ k : Nat, k ≤ 25 ∧ i = .int .i64 k ∧ (keys.take k).contains s.data.toList = false) (fun i => 25 - (intOf i).toNat)
  case atStart => exact ⟨0, by omega, rfl, rfl⟩
  case round =>
    obtain ⟨k, hk, rfl, hf⟩ := hrel
    have HF := Lib.hid hf
    clear hf
    by_cases hlt : k < 25
    · have e := keys_take s.data.toList k hlt
      rw [HF.out, Bool.false_or] at e
      have hc := HC1.out k hlt
      have e2 : ((bs (keys.getD k [])).toList == s.toList) = (keys.getD k [] == s.data.toList) := by rw [ByteArray.toList_eq, ByteArray.toList_eq, bs_list]
      generalize keys.getD k [] = q at *
      rw [← e2] at e
      have HE := Lib.hid e
      clear e e2
      go_wp2
      · go_ret
        refine ⟨ret_bool ?_, HB1.out⟩
        have h1 : ((bs q).toList == s.toList) = true := by assumption
        rw [h1] at HE
        have h2 := HE.out
        simp only [List.contains_eq_mem, decide_eq_true_eq] at h2
        unfold key
        simp only [List.contains_eq_mem]
        exact (decide_eq_true (List.mem_of_mem_take h2)).symm
      · have h1 : ((bs q).toList == s.toList) = false := by assumption
        go_round
        case rel => exact ⟨k + 1, by omega, by go_num, by rw [HE.out, h1]⟩
        case measure => simp [intOf]; omega
    · go_wp2
      go_ret
      refine ⟨ret_bool ?_, HB1.out⟩
      obtain rfl : k = 25 := by omega
      exact HF.out.symm
end Go.Proofs.YtncifeeinogcnaaGreatDoor.Lx
