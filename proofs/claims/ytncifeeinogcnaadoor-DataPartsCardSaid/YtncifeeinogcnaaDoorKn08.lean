/- Texts of this seat, one behind the other: LxRightA, LxRight. -/
import Derived.Test.YtncifeeinogcnaaDoorKn07
import Derived.Deep.DeepCutAuto
/- The contract of Right: whether a token may be. -/
set_option maxRecDepth 100000
namespace Go
theorem step_call_fn_if {P : Program} {w : World} {ops : Array Oper} {o : Oper} {a : Act} {K : Act → World → Prop} {Q : Exit → Act → World → Prop} {E : Prop} (hw : Region.wanted o (yielded ops a.tmps) = true) (f : FuncId) (xs : Array Operand) (ats : Array TypeId)
    (ho : o.op = .call { callee := .value (.func f), args := xs, argTypes := ats }) (hf : ∀ vs w, (callFunc f vs).run P w = .ok (.enter f vs) w) (vs : Array Value) (hx : xs.map a.eval = vs)
    (h : Calls P f vs w fun e w' => ∃ v, e = .returned v ∧ K (a.put o.dst v) w') : if Region.wanted o (yielded ops a.tmps) = true then Oper.wp P o a w K Q else E := by
  rw [if_pos hw]
  subst hx
  unfold Oper.wp
  have e : execOp a.eval o = callFunc f (xs.map a.eval) := by
    obtain ⟨dst, op, ty, pos, after, guard⟩ := o
    simp only at ho
    subst ho
    simp [execOp, resolve, invoke, Act.eval, Deferred.ofValue]
  rw [e, hf, Oper.upon_enter]
  refine h.mono ?_
  rintro e w' ⟨v, rfl, hw⟩
  exact hw
end Go
namespace Go.Proofs.YtncifeeinogcnaaDoor.Lx
open Go.RowKit Go.Proofs.LexMath

def tokW (t : Tok) (w : World) : World := w.alloc (.cells #[.int .i64 t.kind, .string t.text, .int .i64 t.num, .int .i64 t.at_] 103)
/-- What may be beside the place and the number. -/
def kindB (k : Int) (s : ByteArray) (n : Int) : Bool :=
  if k = 1 then isw low tl s.data.toList && !key s.data.toList
  else if k = 2 then isw upp tl s.data.toList
  else if k = 3 then s.data.toList.isEmpty && decide (wr n = n)
  else if k = 4 then decide (s.size ≤ 200)
  else if k = 5 then isw opr opr s.data.toList && !key s.data.toList
  else if k = 6 then key s.data.toList
  else false
theorem right_kind (t : Tok) (h0 : 0 ≤ t.at_) (h1 : t.kind = 3 ∨ t.num = 0) : rightB t = kindB t.kind t.text t.num := by
  have e : decide (0 ≤ t.at_) = true := by simpa using h0
  have hl : t.bytes.length = t.text.size := rfl
  unfold rightB kindB
  rw [e, Bool.true_and, hl]
  unfold Tok.bytes
  by_cases h3 : t.kind = 3
  · simp [h3]
  · have hn : decide (t.num = 0) = true := by rcases h1 with h1 | h1; exact absurd h1 h3; simpa using h1
    simp [h3, hn]
theorem right_at (t : Tok) (h0 : ¬ 0 ≤ t.at_) : rightB t = false := by simp [rightB, h0]
theorem right_num (t : Tok) (h1 : ¬ (t.kind = 3 ∨ t.num = 0)) : rightB t = false := by
  have a : ¬ t.kind = 3 := fun h => h1 (.inl h)
  have b : ¬ t.num = 0 := fun h => h1 (.inr h)
  simp [rightB, a, b]
def RB (b : Bool) (W : World) (e : Ending) (w' : World) : Prop := e = .returned (.bool b) ∧ Below W.heap.size W w'
theorem tokW_facts {t : Tok} {w w' : World} (b : Below (tokW t w).heap.size (tokW t w) w') :
    w'.cell? ⟨w.heap.size, 0, none⟩ = some (.int .i64 t.kind) ∧ w'.cell? ⟨w.heap.size, 1, none⟩ = some (.string t.text) ∧ w'.cell? ⟨w.heap.size, 2, none⟩ = some (.int .i64 t.num) ∧ w'.cell? ⟨w.heap.size, 3, none⟩ = some (.int .i64 t.at_) :=
  (TokBlk.below (show TokBlk (tokW t w) w.heap.size t from heap_alloc_new w _) b (by simp [tokW])).facts.1
theorem tokW_below {t : Tok} {w w' : World} (b : Below (tokW t w).heap.size (tokW t w) w') : Below w.heap.size w w' := ((Below.refl _ _).alloc (Nat.le_refl _) _).trans (b.mono (by simp [tokW]))
theorem call31 (vs : Array Value) (w : World) : (callFunc 70 vs).run Tryd.prog w = .ok (.enter 70 vs) w := run_callFunc Tryd.func70 (by kernel_rfl) (by kernel_rfl) vs w
theorem call33 (vs : Array Value) (w : World) : (callFunc 72 vs).run Tryd.prog w = .ok (.enter 72 vs) w := run_callFunc Tryd.func72 (by kernel_rfl) (by kernel_rfl) vs w
theorem call34 (vs : Array Value) (w : World) : (callFunc 74 vs).run Tryd.prog w = .ok (.enter 74 vs) w := run_callFunc Tryd.func74 (by kernel_rfl) (by kernel_rfl) vs w
theorem call36 (vs : Array Value) (w : World) : (callFunc 76 vs).run Tryd.prog w = .ok (.enter 76 vs) w := run_callFunc Tryd.func76 (by kernel_rfl) (by kernel_rfl) vs w
theorem call24 (vs : Array Value) (w : World) : (callFunc 73 vs).run Tryd.prog w = .ok (.enter 73 vs) w := run_callFunc Tryd.func73 (by kernel_rfl) (by kernel_rfl) vs w
set_option maxRecDepth 100000 in
set_option maxHeartbeats 1000000 in
theorem right_1 (s : ByteArray) (a : Int) (w : World) (hs : s.size ≤ 100000000) (ha : 0 ≤ a) (x y : Bool) (hx : Hid (isw low tl s.data.toList = x)) (hy : Hid (key s.data.toList = y)) :
    Calls Tryd.prog 61 #[tokV ⟨1, s, 0, a⟩] w (RB (x && !y) w) := by
  unfold tokV
  have ha0 : decide (a < 0) = false := by simpa using ha
  have K := fun W => key_any s W
  rw [hy.out] at K
  have KK := Lib.hid K
  clear K
  cases x <;> cases y
  all_goals
    go_enter Tryd.func61, Tryd.ntmps61
    go_upto_region 5 with (fail)
    (first | go_region_law ((first
      | (refine step_call_fn (by rfl) 71 #[] #[] (by rfl) call32 #[] (by simp) ?_; refine (lowers_any _).mono ?_; rintro e w1 ⟨v1, rfl, c1, b1⟩; refine ⟨_, rfl, ?_⟩; obtain ⟨f1, caps1, rfl⟩ := c1.form; have HC1 := Lib.hid c1; have BB : Hid (Below (tokW ⟨1, s, 0, a⟩ w).heap.size (tokW ⟨1, s, 0, a⟩ w) w1) := Lib.hid (by first | exact b1 | exact (Below.refl _ _).drew.trans b1); have ⟨q1, q2, q3, q4⟩ := tokW_facts BB.out; clear c1 b1)
      | (refine step_call_fn (by rfl) 72 #[] #[] (by rfl) call33 #[] (by simp) ?_; refine (tails_any _).mono ?_; rintro e w2 ⟨v2, rfl, c2, b2⟩; refine ⟨_, rfl, ?_⟩; obtain ⟨f2, caps2, rfl⟩ := c2.form; have HC2 := Lib.hid c2; have BC := Lib.hid (by first | exact b2 | exact (Below.refl _ _).drew.trans b2); have HC1 := Lib.hid (HC1.out.below BC.out); have BB := Lib.hid (BB.out.trans (BC.out.mono BB.out.size)); have ⟨q1, q2, q3, q4⟩ := tokW_facts BB.out; clear c2 b2)
      | (refine step_call_fn (by rfl) 70 #[.tmp 21, .tmp 22, .tmp 23] #[9, 109, 109] (by rfl) call31 #[.string s, .func (.func f1) #[] caps1, .func (.func f2) #[] caps2] (by simp [go_sem]) ?_; refine (isWord_any s _ _ low tl _ (by omega) tl_wide HC1.out HC2.out).mono ?_; rw [hx.out]; rintro e w3 ⟨rfl, b3⟩; refine ⟨_, rfl, ?_⟩; have BB := Lib.hid (BB.out.trans (b3.mono BB.out.size)); have ⟨q1, q2, q3, q4⟩ := tokW_facts BB.out; clear b3)
      | (refine step_call_fn_if (by rfl) 73 #[.tmp 27] #[9] (by rfl) call24 #[.string s] (by simp [go_sem]) ?_; refine (KK.out _).mono ?_; rintro e w4 ⟨rfl, rfl⟩; refine ⟨_, rfl, ?_⟩)
      | fail)) | fail)
    all_goals
      go_wp2
      go_ret
      exact ⟨rfl, tokW_below BB.out⟩
set_option maxRecDepth 100000 in
set_option maxHeartbeats 1000000 in
theorem right_2 (s : ByteArray) (a : Int) (w : World) (hs : s.size ≤ 100000000) (ha : 0 ≤ a) (x : Bool) (hx : Hid (isw upp tl s.data.toList = x)) :
    Calls Tryd.prog 61 #[tokV ⟨2, s, 0, a⟩] w (RB x w) := by
  unfold tokV
  have ha0 : decide (a < 0) = false := by simpa using ha
  all_goals
    go_enter Tryd.func61, Tryd.ntmps61
    go_upto_region 7 with (fail)
    (first | go_region_law ((first
      | (refine step_call_fn (by rfl) 74 #[] #[] (by rfl) call34 #[] (by simp) ?_; refine (uppers_any _).mono ?_; rintro e w1 ⟨v1, rfl, c1, b1⟩; refine ⟨_, rfl, ?_⟩; obtain ⟨f1, caps1, rfl⟩ := c1.form; have HC1 := Lib.hid c1; have BB : Hid (Below (tokW ⟨2, s, 0, a⟩ w).heap.size (tokW ⟨2, s, 0, a⟩ w) w1) := Lib.hid (by first | exact b1 | exact (Below.refl _ _).drew.trans b1); have ⟨q1, q2, q3, q4⟩ := tokW_facts BB.out; clear c1 b1)
      | (refine step_call_fn (by rfl) 72 #[] #[] (by rfl) call33 #[] (by simp) ?_; refine (tails_any _).mono ?_; rintro e w2 ⟨v2, rfl, c2, b2⟩; refine ⟨_, rfl, ?_⟩; obtain ⟨f2, caps2, rfl⟩ := c2.form; have HC2 := Lib.hid c2; have BC := Lib.hid (by first | exact b2 | exact (Below.refl _ _).drew.trans b2); have HC1 := Lib.hid (HC1.out.below BC.out); have BB := Lib.hid (BB.out.trans (BC.out.mono BB.out.size)); have ⟨q1, q2, q3, q4⟩ := tokW_facts BB.out; clear c2 b2)
      | (refine step_call_fn (by rfl) 70 #[.tmp 34, .tmp 35, .tmp 36] #[9, 109, 109] (by rfl) call31 #[.string s, .func (.func f1) #[] caps1, .func (.func f2) #[] caps2] (by simp [go_sem]) ?_; refine (isWord_any s _ _ upp tl _ (by omega) tl_wide HC1.out HC2.out).mono ?_; rw [hx.out]; rintro e w3 ⟨rfl, b3⟩; refine ⟨_, rfl, ?_⟩; have BB := Lib.hid (BB.out.trans (b3.mono BB.out.size)); have ⟨q1, q2, q3, q4⟩ := tokW_facts BB.out; clear b3)
      | fail)) | fail)
    all_goals
      go_wp2
      go_ret
      exact ⟨rfl, tokW_below BB.out⟩
set_option maxRecDepth 100000 in
set_option maxHeartbeats 1000000 in
theorem right_5 (s : ByteArray) (a : Int) (w : World) (hs : s.size ≤ 100000000) (ha : 0 ≤ a) (x y : Bool) (hx : Hid (isw opr opr s.data.toList = x)) (hy : Hid (key s.data.toList = y)) :
    Calls Tryd.prog 61 #[tokV ⟨5, s, 0, a⟩] w (RB (x && !y) w) := by
  unfold tokV
  have ha0 : decide (a < 0) = false := by simpa using ha
  have K := fun W => key_any s W
  rw [hy.out] at K
  have KK := Lib.hid K
  clear K
  cases x <;> cases y
  all_goals
    go_enter Tryd.func61, Tryd.ntmps61
    go_upto_region 13 with (fail)
    (first | go_region_law ((first
      | (refine step_call_fn (by rfl) 76 #[] #[] (by rfl) call36 #[] (by simp) ?_; refine (operators_any _).mono ?_; rintro e w2 ⟨v2, rfl, c2, b2⟩; refine ⟨_, rfl, ?_⟩; obtain ⟨f2, caps2, rfl⟩ := c2.form; have HC2 := Lib.hid c2; have BC := Lib.hid (by first | exact b2 | exact (Below.refl _ _).drew.trans b2); have HC1 := Lib.hid (HC1.out.below BC.out); have BB := Lib.hid (BB.out.trans (BC.out.mono BB.out.size)); have ⟨q1, q2, q3, q4⟩ := tokW_facts BB.out; clear c2 b2)
      | (refine step_call_fn (by rfl) 76 #[] #[] (by rfl) call36 #[] (by simp) ?_; refine (operators_any _).mono ?_; rintro e w1 ⟨v1, rfl, c1, b1⟩; refine ⟨_, rfl, ?_⟩; obtain ⟨f1, caps1, rfl⟩ := c1.form; have HC1 := Lib.hid c1; have BB : Hid (Below (tokW ⟨5, s, 0, a⟩ w).heap.size (tokW ⟨5, s, 0, a⟩ w) w1) := Lib.hid (by first | exact b1 | exact (Below.refl _ _).drew.trans b1); have ⟨q1, q2, q3, q4⟩ := tokW_facts BB.out; clear c1 b1)
      | (refine step_call_fn (by rfl) 70 #[.tmp 60, .tmp 61, .tmp 62] #[9, 109, 109] (by rfl) call31 #[.string s, .func (.func f1) #[] caps1, .func (.func f2) #[] caps2] (by simp [go_sem]) ?_; refine (isWord_any s _ _ opr opr _ (by omega) opr_wide HC1.out HC2.out).mono ?_; rw [hx.out]; rintro e w3 ⟨rfl, b3⟩; refine ⟨_, rfl, ?_⟩; have BB := Lib.hid (BB.out.trans (b3.mono BB.out.size)); have ⟨q1, q2, q3, q4⟩ := tokW_facts BB.out; clear b3)
      | (refine step_call_fn_if (by rfl) 73 #[.tmp 66] #[9] (by rfl) call24 #[.string s] (by simp [go_sem]) ?_; refine (KK.out _).mono ?_; rintro e w4 ⟨rfl, rfl⟩; refine ⟨_, rfl, ?_⟩)
      | fail)) | fail)
    all_goals
      go_wp2
      go_ret
      exact ⟨rfl, tokW_below BB.out⟩
end Go.Proofs.YtncifeeinogcnaaDoor.Lx
/- The contract of Right, all of it; and of Word. -/
set_option maxRecDepth 100000
namespace Go.Proofs.YtncifeeinogcnaaDoor.Lx
open Go.RowKit Go.Proofs.LexMath

theorem isEmpty_of {s : ByteArray} {b : Bool} (h : s.data.toList.isEmpty = b) : s.toList.isEmpty = b := by rw [ByteArray.toList_eq]; exact h
set_option maxRecDepth 100000 in
set_option maxHeartbeats 1000000 in
theorem right_3 (s : ByteArray) (n a : Int) (w : World) (ha : 0 ≤ a) (x : Bool) (hx : Hid (s.data.toList.isEmpty = x)) :
    Calls Tryd.prog 61 #[tokV ⟨3, s, n, a⟩] w (RB (x && decide (wr n = n)) w) := by
  unfold tokV
  have ha0 : decide (a < 0) = false := by simpa using ha
  have C := fun W => wrap_any n W
  have hw : (wr n == n) = decide (wr n = n) := by rw [Bool.eq_iff_iff]; simp
  generalize decide (wr n = n) = y at *
  generalize wr n = m at *
  have CC := Lib.hid C
  clear C
  cases x with
  | true =>
    have e : s.toList = [] := by rw [ByteArray.toList_eq]; exact List.isEmpty_iff.1 hx.out
    clear hx
    cases y
    all_goals
      go_enter Tryd.func61, Tryd.ntmps61
      go_upto_region 9 with (fail)
      go_quiet ((go_at_call 75; first | exact quiet_left (CC.out _) | exact quiet_same_left (CC.out _)))
    all_goals go_wp2
    all_goals go_ret
    all_goals exact ⟨rfl, below_drewN ((Below.refl _ _).alloc (Nat.le_refl _) _) _⟩
  | false =>
    have e : s.toList.isEmpty = false := isEmpty_of hx.out
    have e2 : ¬ s.toList = [] := by intro h; rw [h] at e; cases e
    clear hx
    go_enter Tryd.func61, Tryd.ntmps61
    go_upto_region 9 with (fail)
    go_quiet ((go_at_call 75; first | exact quiet_left (CC.out _) | exact quiet_same_left (CC.out _)))
    all_goals go_wp2
    all_goals go_ret
    all_goals exact ⟨rfl, below_drewN ((Below.refl _ _).alloc (Nat.le_refl _) _) _⟩
set_option maxRecDepth 100000 in
theorem right_4 (s : ByteArray) (a : Int) (w : World) (ha : 0 ≤ a) (hs : s.size ≤ 100000000) :
    Calls Tryd.prog 61 #[tokV ⟨4, s, 0, a⟩] w (RB (decide (s.size ≤ 200)) w) := by
  unfold tokV
  have ha0 : decide (a < 0) = false := by simpa using ha
  have hd : decide (s.size ≤ 200) = decide ((s.size : Int) ≤ 200) := by rw [Bool.eq_iff_iff]; simp only [decide_eq_true_eq]; omega
  rw [hd]
  clear hd
  go_enter Tryd.func61, Tryd.ntmps61
  go_wp2
  go_ret
  exact ⟨rfl, (Below.refl _ _).alloc (Nat.le_refl _) _⟩
set_option maxRecDepth 100000 in
theorem right_6 (s : ByteArray) (a : Int) (w : World) (ha : 0 ≤ a) :
    Calls Tryd.prog 61 #[tokV ⟨6, s, 0, a⟩] w (RB (key s.data.toList) w) := by
  unfold tokV
  have ha0 : decide (a < 0) = false := by simpa using ha
  have K := fun W => key_any s W
  generalize key s.data.toList = x at *
  have KK := Lib.hid K
  clear K
  go_enter Tryd.func61, Tryd.ntmps61
  go_wp2_with fail
  refine (KK.out _).mono ?_
  rintro e w1 ⟨rfl, rfl⟩
  go_wp2
  go_ret
  exact ⟨rfl, (Below.refl _ _).alloc (Nat.le_refl _) _⟩
set_option maxRecDepth 100000 in
theorem right_0 (k : Int) (s : ByteArray) (a : Int) (w : World) (ha : 0 ≤ a) (h1 : (k == 1) = false) (h2 : (k == 2) = false) (h3 : (k == 3) = false) (h4 : (k == 4) = false) (h5 : (k == 5) = false) (h6 : (k == 6) = false) :
    Calls Tryd.prog 61 #[tokV ⟨k, s, 0, a⟩] w (RB false w) := by
  unfold tokV
  have ha0 : decide (a < 0) = false := by simpa using ha
  have h3' : (k != 3) = true := by simpa using h3
  go_enter Tryd.func61, Tryd.ntmps61
  go_wp2
  go_ret
  exact ⟨rfl, (Below.refl _ _).alloc (Nat.le_refl _) _⟩
set_option maxRecDepth 100000 in
theorem right_bad (k : Int) (s : ByteArray) (n a : Int) (w : World) (h : a < 0 ∨ (0 ≤ a ∧ ¬ k = 3 ∧ ¬ n = 0)) :
    Calls Tryd.prog 61 #[tokV ⟨k, s, n, a⟩] w (RB false w) := by
  unfold tokV
  rcases h with h | ⟨h1, h2, h3⟩
  · have ha0 : decide (a < 0) = true := by simpa using h
    go_enter Tryd.func61, Tryd.ntmps61
    go_wp2
    go_ret
    exact ⟨rfl, (Below.refl _ _).alloc (Nat.le_refl _) _⟩
  · have ha0 : decide (a < 0) = false := by simpa using h1
    have h3' : (k != 3) = true := by simpa using h2
    have h4' : (n != 0) = true := by simpa using h3
    clear h2 h3
    go_enter Tryd.func61, Tryd.ntmps61
    go_wp2
    go_ret
    exact ⟨rfl, (Below.refl _ _).alloc (Nat.le_refl _) _⟩
theorem right_any (t : Tok) (w : World) (hs : t.text.size ≤ 100000000) : Calls Tryd.prog 61 #[tokV t] w (RB (rightB t) w) := by
  by_cases h0 : 0 ≤ t.at_
  · by_cases h1 : t.kind = 3 ∨ t.num = 0
    · rw [right_kind t h0 h1]
      obtain ⟨k, s, n, a⟩ := t
      simp only at h0 h1 hs ⊢
      by_cases g3 : k = 3
      · subst g3
        exact right_3 s n a w h0 _ (Lib.hid rfl)
      · obtain rfl : n = 0 := by omega
        by_cases g1 : k = 1
        · subst g1; exact right_1 s a w hs h0 _ _ (Lib.hid rfl) (Lib.hid rfl)
        · by_cases g2 : k = 2
          · subst g2; exact right_2 s a w hs h0 _ (Lib.hid rfl)
          · by_cases g4 : k = 4
            · subst g4; exact right_4 s a w h0 hs
            · by_cases g5 : k = 5
              · subst g5; exact right_5 s a w hs h0 _ _ (Lib.hid rfl) (Lib.hid rfl)
              · by_cases g6 : k = 6
                · subst g6; exact right_6 s a w h0
                · have e : kindB k s 0 = false := by simp [kindB, g1, g2, g3, g4, g5, g6]
                  rw [e]
                  exact right_0 k s a w h0 (by simpa using g1) (by simpa using g2) (by simpa using g3) (by simpa using g4) (by simpa using g5) (by simpa using g6)
    · rw [right_num t h1]
      exact right_bad t.kind t.text t.num t.at_ w (.inr ⟨h0, fun h => h1 (.inl h), fun h => h1 (.inr h)⟩)
  · rw [right_at t h0]
    exact right_bad t.kind t.text t.num t.at_ w (.inl (by omega))
end Go.Proofs.YtncifeeinogcnaaDoor.Lx
