/- Texts of this seat, one behind the other: LxLex, LxRightA. -/
import Derived.Test.YtggjckalmlploaaGreatDoorKn16
import Derived.Deep.DeepCutAuto
/- The contract of Lex: the tokens of a text, or where it goes wrong. -/
set_option maxRecDepth 100000
namespace Go.Proofs.YtggjckalmlploaaGreatDoor.Lx
open Go.RowKit Go.Proofs.LexMath

/-- What a reading returns: the tokens as a slice, nil where it went wrong. -/
def LexRet (R : Res) (W : World) (e : Ending) (w' : World) : Prop :=
  match R with
  | .ok ts => ∃ v, e = .returned (.tuple #[v, .int .i64 0, .int .i64 0]) ∧ ToksAt w' v ts ∧ Below W.heap.size W w'
  | .err c p => e = .returned (.tuple #[.slice none 0 0, .int .i64 p, .int .i64 c]) ∧ Below W.heap.size W w'
/-- How far a text has been read: the tokens so far, and the place, behind blanks. -/
def LexAtP (s : ByteArray) (p n : Nat) (acc : List Tok) : Prop :=
  p ≤ s.size ∧ n ≤ 4000 ∧ acc.length = n ∧ skp false (s.data.toList.drop p) = 0 ∧ lex s.data.toList = (lexAt p n (s.data.toList.drop p)).pre acc
theorem skip_fits (s : ByteArray) (p : Nat) (h : p ≤ s.size) : p + skp false (s.data.toList.drop p) ≤ s.size := by
  have h1 := skp_le false (s.data.toList.drop p)
  rw [List.length_drop] at h1
  have : s.data.toList.length = s.size := rfl
  omega
theorem lex_start (s : ByteArray) : LexAtP s (skp false s.data.toList) 0 [] := by
  have h := skip_fits s 0 (Nat.zero_le _)
  rw [List.drop_zero, Nat.zero_add] at h
  refine ⟨h, by omega, rfl, skp_two false _, ?_⟩
  rw [Res.pre_nil, lex, lexAt_skp 0 0 s.data.toList, Nat.zero_add]
theorem lex_done (s : ByteArray) (p n : Nat) (acc : List Tok) (h : LexAtP s p n acc) (hp : ¬ p < s.size) : lex s.data.toList = .ok acc := by
  have e : s.data.toList.drop p = [] := List.drop_eq_nil_of_le (by show s.data.size ≤ _; have : s.size = s.data.size := rfl; omega)
  rw [h.2.2.2.2, e, lexAt_nil]
  simp [Res.pre]
theorem lex_nb (s : ByteArray) (p n : Nat) (acc : List Tok) (h : LexAtP s p n acc) (hp : p < s.size) : NoBlank s[p] := by
  have := h.2.2.2.1
  rw [drop_at s p hp] at this
  exact skp_head this
theorem lex_fail (s : ByteArray) (p n : Nat) (acc : List Tok) (h : LexAtP s p n acc) (hp : p < s.size) (c : Int) (ho : one (s.data.toList.drop p) = .err c) : lex s.data.toList = .err c p := by
  have hb := lex_nb s p n acc h hp
  rw [drop_at s p hp] at ho
  rw [h.2.2.2.2, drop_at s p hp, lexAt_err p n hb ho]
  rfl
theorem lex_full (s : ByteArray) (p : Nat) (acc : List Tok) (h : LexAtP s p 4000 acc) (hp : p < s.size) (k v : Int) (t : Bs) (m : Nat) (ho : one (s.data.toList.drop p) = .tok k t v m) : lex s.data.toList = .err 33 p := by
  have hb := lex_nb s p 4000 acc h hp
  rw [drop_at s p hp] at ho
  rw [h.2.2.2.2, drop_at s p hp, lexAt_many p hb ho]
  rfl
theorem lex_step (s : ByteArray) (p n : Nat) (acc : List Tok) (h : LexAtP s p n acc) (hp : p < s.size) (k v : Int) (t : Bs) (m : Nat) (ho : one (s.data.toList.drop p) = .tok k t v m) (hn : n < 4000) :
    (1 ≤ m ∧ p + m ≤ s.size) ∧ LexAtP s (p + m + skp false (s.data.toList.drop (p + m))) (n + 1) (acc ++ [⟨k, bs t, v, (p : Int)⟩]) := by
  have hb := lex_nb s p n acc h hp
  have hs := one_size ho
  rw [List.length_drop] at hs
  have hl : s.data.toList.length = s.size := rfl
  have hpm : p + m ≤ s.size := by omega
  obtain ⟨h1, h2, h3, h4, h5⟩ := h
  refine ⟨⟨hs.1, hpm⟩, skip_fits s _ hpm, by omega, by simp; omega, ?_, ?_⟩
  · rw [← List.drop_drop]
    exact skp_two false _
  · rw [drop_at s p hp] at ho
    rw [h5, drop_at s p hp, lexAt_tok p n hb ho (by omega), Res.pre_pre, ← drop_at s p hp, List.drop_drop, lexAt_skp (p + m) (n + 1), List.drop_drop]
set_option maxRecDepth 100000 in
set_option maxHeartbeats 1000000 in
theorem lex_any (s : ByteArray) (w : World) (hs : s.size ≤ 100000000) : Calls Tryz.prog 15 #[.string s] w (LexRet (lex s.data.toList) w) := by
  have DONE := Lib.hid (lex_done s)
  have FAIL := Lib.hid (lex_fail s)
  have FULL := Lib.hid (lex_full s)
  have STEP := Lib.hid (lex_step s)
  have START := Lib.hid (lex_start s)
  have h0 := skip_fits s 0 (Nat.zero_le _)
  have S0 := fun W => skip_any s 0 W (Nat.zero_le _) (by omega)
  rw [List.drop_zero, Nat.zero_add] at h0 S0
  generalize hR : lex s.data.toList = R at *
  clear hR
  generalize skp false s.data.toList = a0 at *
  have SS := Lib.hid S0
  clear S0
  go_enter Tryz.func15, Tryz.ntmps15
  go_wp2_with fail
  refine (SS.out _).mono ?_
  rintro e w1 ⟨rfl, b1⟩
  go_wp2
  go_loopw [5, 6] (fun l i wr => ∃ (p n : Nat) (acc : List Tok), i = .int .i64 p ∧ LexAtP s p n acc ∧ TRow w.heap.size wr l n acc ∧ Below w.heap.size w wr) (fun _ i _ => s.size - (intOf i).toNat)
  case atStart => exact ⟨a0, 0, [], by go_num, START.out, TRow.nil _ _, b1⟩
  case round =>
    obtain ⟨wo, hwo⟩ : ∃ wo : World, wo = wr := ⟨_, rfl⟩
    subst hwo
    obtain ⟨p, n, acc, rfl, hL, hR, hB⟩ := hrel
    obtain ⟨pp, cap, rfl⟩ := hR.form
    have hL' := hL
    obtain ⟨h1, h2, -⟩ := hL'
    have HL := Lib.hid hL
    have HR := Lib.hid hR
    have hsz := hB.size
    have HB := Lib.hid hB
    clear hL hR hB
    by_cases hp : p < s.size
    · have C := fun W => token_any s p W hp hs
      cases ho : one (s.data.toList.drop p) with
      | err c =>
        rw [ho] at C
        have E := Lib.hid (FAIL.out p n acc HL.out hp c ho)
        have hc := one_err ho
        have hc0 : (c == 0) = false := by simp; omega
        have hc1 : (c != 0) = true := by simp; omega
        simp only [oneV] at C
        have CC := Lib.hid C
        clear C ho
        go_wp2_with fail
        refine (CC.out _).mono ?_
        rintro e w2 ⟨rfl, b2⟩
        have B2 := Lib.hid (HB.out.trans (b2.mono HB.out.size))
        have hsz2 := b2.size
        clear b2
        simp only [tokV]
        go_wp2
        go_ret3
        rw [E.out]
        refine ⟨rfl, ?_⟩
        have hB : w.heap.size ≤ w2.heap.size := by omega
        exact B2.out.alloc hB _
      | tok k t v m =>
        rw [ho] at C
        simp only [oneV] at C
        by_cases hn : n = 4000
        · subst hn
          have E := Lib.hid (FULL.out p acc HL.out hp k v t m ho)
          have CC := Lib.hid C
          clear C ho
          go_wp2_with fail
          refine (CC.out _).mono ?_
          rintro e w2 ⟨rfl, b2⟩
          have B2 := Lib.hid (HB.out.trans (b2.mono HB.out.size))
          have hsz2 := b2.size
          clear b2
          simp only [tokV]
          go_wp2
          go_ret3
          rw [E.out]
          refine ⟨rfl, ?_⟩
          have hB : w.heap.size ≤ w2.heap.size := by omega
          exact B2.out.alloc hB _
        · obtain ⟨⟨hm1, hm2⟩, hST⟩ := STEP.out p n acc HL.out hp k v t m ho (by omega)
          have ST := Lib.hid hST
          have hn3 : ((n : Int) == 4000) = false := by simp; omega
          have SK := fun W => skip_any s (p + m) W hm2 (by omega)
          have hq := skip_fits s (p + m) hm2
          have hq2 : p + m ≤ p + m + skp false (s.data.toList.drop (p + m)) := Nat.le_add_right _ _
          clear hST
          generalize p + m + skp false (s.data.toList.drop (p + m)) = q at *
          have SQ := Lib.hid SK
          have CC := Lib.hid C
          clear C ho SK
          go_wp2_with fail
          refine (CC.out _).mono ?_
          rintro e w2 ⟨rfl, b2⟩
          have B2 := Lib.hid (HB.out.trans (b2.mono HB.out.size))
          have R2 := Lib.hid (HR.out.after b2)
          have hsz2 := b2.size
          clear b2
          simp only [tokV]
          go_upto_region 10 with (fail)
          have hB : w.heap.size ≤ w2.heap.size := by omega
          have B3 := Lib.hid (B2.out.alloc hB (.cells #[.int .i64 k, .string (bs t), .int .i64 v, .int .i64 p] 45))
          have R3 : Hid (TRow w.heap.size (w2.alloc (.cells #[.int .i64 k, .string (bs t), .int .i64 v, .int .i64 p] 45)) (.slice pp n cap) n acc) := Lib.hid (R2.out.after ((Below.refl _ _).alloc (Nat.le_refl _) _))
          have hB4 : w.heap.size ≤ w2.heap.size + 1 := by omega
          go_wp2_with ((refine append_tok ⟨k, bs t, v, p⟩ (.tmp 36) (.tmp 38) rfl rfl w.heap.size _ n acc rfl R3.out ?cx ?cn ?cb B3.out ?_; (case cx => simp [go_sem]); (case cn => omega); (case cb => simp; omega); intro p' cap' w3 r3 b3; have R4 := Lib.hid r3; have B4 := Lib.hid b3; clear r3 b3))
          refine (SQ.out _).mono ?_
          rintro e w4 ⟨rfl, b4⟩
          have B5 := Lib.hid (B4.out.trans (b4.mono B4.out.size))
          have R5 := Lib.hid (R4.out.after b4)
          clear b4
          go_wp2
          go_roundw
          case rel => exact ⟨q, n + 1, _, by go_num, ST.out, R5.out, B5.out⟩
          case measure => simp [intOf]; omega
    · have E := Lib.hid (DONE.out p n acc HL.out hp)
      go_wp2
      go_ret3
      rw [E.out]
      exact ⟨_, rfl, HR.out.at, HB.out⟩
end Go.Proofs.YtggjckalmlploaaGreatDoor.Lx
/- The contract of Right: whether a token may be. -/
set_option maxRecDepth 100000
namespace Go
theorem step_call_fn_if {P : Program} {w : World} {ops : Array Oper} {o : Oper} {a : Act} {K : Act → World → Prop} {Q : Exit → Act → World → Prop} {E : Prop} (hw : Region.wanted o (yielded ops a.tmps) = true) (f : FuncId) (xs : Array Operand) (ats : Array TypeId)
    (ho : o.op = .call { callee := .value (.func f), args := xs, argTypes := ats }) (hf : ∀ vs w, (callFunc f vs).run P w = .ok (.enter f vs) w) (vs : Array Value) (hx : xs.map a.eval = vs)
    (h : Calls P f vs w fun e w' => ∃ v, e = .returned v ∧ K (a.put o.dst v) w') : if Region.wanted o (yielded ops a.tmps) = true then Oper.wp P o a w K Q else E := by
  rw [if_pos hw]
  subst hx
  unfold Oper.wp
  have e : execOp a.eval o = callFunc f (xs.map a.eval) := by
    obtain ⟨dst, op, ty, pos, after, guard⟩ := o
    simp only at ho
    subst ho
    simp [execOp, resolve, invoke, Act.eval, Deferred.ofValue]
  rw [e, hf, Oper.upon_enter]
  refine h.mono ?_
  rintro e w' ⟨v, rfl, hw⟩
  exact hw
end Go
namespace Go.Proofs.YtggjckalmlploaaGreatDoor.Lx
open Go.RowKit Go.Proofs.LexMath

def tokW (t : Tok) (w : World) : World := w.alloc (.cells #[.int .i64 t.kind, .string t.text, .int .i64 t.num, .int .i64 t.at_] 45)
/-- What may be beside the place and the number. -/
def kindB (k : Int) (s : ByteArray) (n : Int) : Bool :=
  if k = 1 then isw low tl s.data.toList && !key s.data.toList
  else if k = 2 then isw upp tl s.data.toList
  else if k = 3 then s.data.toList.isEmpty && decide (wr n = n)
  else if k = 4 then decide (s.size ≤ 200)
  else if k = 5 then isw opr opr s.data.toList && !key s.data.toList
  else if k = 6 then key s.data.toList
  else false
theorem right_kind (t : Tok) (h0 : 0 ≤ t.at_) (h1 : t.kind = 3 ∨ t.num = 0) : rightB t = kindB t.kind t.text t.num := by
  have e : decide (0 ≤ t.at_) = true := by simpa using h0
  have hl : t.bytes.length = t.text.size := rfl
  unfold rightB kindB
  rw [e, Bool.true_and, hl]
  unfold Tok.bytes
  by_cases h3 : t.kind = 3
  · simp [h3]
  · have hn : decide (t.num = 0) = true := by rcases h1 with h1 | h1; exact absurd h1 h3; simpa using h1
    simp [h3, hn]
theorem right_at (t : Tok) (h0 : ¬ 0 ≤ t.at_) : rightB t = false := by simp [rightB, h0]
theorem right_num (t : Tok) (h1 : ¬ (t.kind = 3 ∨ t.num = 0)) : rightB t = false := by
  have a : ¬ t.kind = 3 := fun h => h1 (.inl h)
  have b : ¬ t.num = 0 := fun h => h1 (.inr h)
  simp [rightB, a, b]
def RB (b : Bool) (W : World) (e : Ending) (w' : World) : Prop := e = .returned (.bool b) ∧ Below W.heap.size W w'
theorem tokW_facts {t : Tok} {w w' : World} (b : Below (tokW t w).heap.size (tokW t w) w') :
    w'.cell? ⟨w.heap.size, 0, none⟩ = some (.int .i64 t.kind) ∧ w'.cell? ⟨w.heap.size, 1, none⟩ = some (.string t.text) ∧ w'.cell? ⟨w.heap.size, 2, none⟩ = some (.int .i64 t.num) ∧ w'.cell? ⟨w.heap.size, 3, none⟩ = some (.int .i64 t.at_) :=
  (TokBlk.below (show TokBlk (tokW t w) w.heap.size t from heap_alloc_new w _) b (by simp [tokW])).facts.1
theorem tokW_below {t : Tok} {w w' : World} (b : Below (tokW t w).heap.size (tokW t w) w') : Below w.heap.size w w' := ((Below.refl _ _).alloc (Nat.le_refl _) _).trans (b.mono (by simp [tokW]))
theorem call31 (vs : Array Value) (w : World) : (callFunc 71 vs).run Tryz.prog w = .ok (.enter 71 vs) w := run_callFunc Tryz.func71 (by kernel_rfl) (by kernel_rfl) vs w
theorem call33 (vs : Array Value) (w : World) : (callFunc 48 vs).run Tryz.prog w = .ok (.enter 48 vs) w := run_callFunc Tryz.func48 (by kernel_rfl) (by kernel_rfl) vs w
theorem call34 (vs : Array Value) (w : World) : (callFunc 74 vs).run Tryz.prog w = .ok (.enter 74 vs) w := run_callFunc Tryz.func74 (by kernel_rfl) (by kernel_rfl) vs w
theorem call36 (vs : Array Value) (w : World) : (callFunc 53 vs).run Tryz.prog w = .ok (.enter 53 vs) w := run_callFunc Tryz.func53 (by kernel_rfl) (by kernel_rfl) vs w
theorem call24 (vs : Array Value) (w : World) : (callFunc 73 vs).run Tryz.prog w = .ok (.enter 73 vs) w := run_callFunc Tryz.func73 (by kernel_rfl) (by kernel_rfl) vs w
set_option maxRecDepth 100000 in
set_option maxHeartbeats 1000000 in
theorem right_1 (s : ByteArray) (a : Int) (w : World) (hs : s.size ≤ 100000000) (ha : 0 ≤ a) (x y : Bool) (hx : Hid (isw low tl s.data.toList = x)) (hy : Hid (key s.data.toList = y)) :
    Calls Tryz.prog 39 #[tokV ⟨1, s, 0, a⟩] w (RB (x && !y) w) := by
  unfold tokV
  have ha0 : decide (a < 0) = false := by simpa using ha
  have K := fun W => key_any s W
  rw [hy.out] at K
  have KK := Lib.hid K
  clear K
  cases x <;> cases y
  all_goals
    go_enter Tryz.func39, Tryz.ntmps39
    go_upto_region 5 with (fail)
    (first | go_region_law ((first
      | (refine step_call_fn (by rfl) 72 #[] #[] (by rfl) call32 #[] (by simp) ?_; refine (lowers_any _).mono ?_; rintro e w1 ⟨v1, rfl, c1, b1⟩; refine ⟨_, rfl, ?_⟩; obtain ⟨f1, caps1, rfl⟩ := c1.form; have HC1 := Lib.hid c1; have BB : Hid (Below (tokW ⟨1, s, 0, a⟩ w).heap.size (tokW ⟨1, s, 0, a⟩ w) w1) := Lib.hid (by first | exact b1 | exact (Below.refl _ _).drew.trans b1); have ⟨q1, q2, q3, q4⟩ := tokW_facts BB.out; clear c1 b1)
      | (refine step_call_fn (by rfl) 48 #[] #[] (by rfl) call33 #[] (by simp) ?_; refine (tails_any _).mono ?_; rintro e w2 ⟨v2, rfl, c2, b2⟩; refine ⟨_, rfl, ?_⟩; obtain ⟨f2, caps2, rfl⟩ := c2.form; have HC2 := Lib.hid c2; have BC := Lib.hid (by first | exact b2 | exact (Below.refl _ _).drew.trans b2); have HC1 := Lib.hid (HC1.out.below BC.out); have BB := Lib.hid (BB.out.trans (BC.out.mono BB.out.size)); have ⟨q1, q2, q3, q4⟩ := tokW_facts BB.out; clear c2 b2)
      | (refine step_call_fn (by rfl) 71 #[.tmp 21, .tmp 22, .tmp 23] #[9, 82, 82] (by rfl) call31 #[.string s, .func (.func f1) #[] caps1, .func (.func f2) #[] caps2] (by simp [go_sem]) ?_; refine (isWord_any s _ _ low tl _ (by omega) tl_wide HC1.out HC2.out).mono ?_; rw [hx.out]; rintro e w3 ⟨rfl, b3⟩; refine ⟨_, rfl, ?_⟩; have BB := Lib.hid (BB.out.trans (b3.mono BB.out.size)); have ⟨q1, q2, q3, q4⟩ := tokW_facts BB.out; clear b3)
      | (refine step_call_fn_if (by rfl) 73 #[.tmp 27] #[9] (by rfl) call24 #[.string s] (by simp [go_sem]) ?_; refine (KK.out _).mono ?_; rintro e w4 ⟨rfl, rfl⟩; refine ⟨_, rfl, ?_⟩)
      | fail)) | fail)
    all_goals
      go_wp2
      go_ret
      exact ⟨rfl, tokW_below BB.out⟩
set_option maxRecDepth 100000 in
set_option maxHeartbeats 1000000 in
theorem right_2 (s : ByteArray) (a : Int) (w : World) (hs : s.size ≤ 100000000) (ha : 0 ≤ a) (x : Bool) (hx : Hid (isw upp tl s.data.toList = x)) :
    Calls Tryz.prog 39 #[tokV ⟨2, s, 0, a⟩] w (RB x w) := by
  unfold tokV
  have ha0 : decide (a < 0) = false := by simpa using ha
  all_goals
    go_enter Tryz.func39, Tryz.ntmps39
    go_upto_region 7 with (fail)
    (first | go_region_law ((first
      | (refine step_call_fn (by rfl) 74 #[] #[] (by rfl) call34 #[] (by simp) ?_; refine (uppers_any _).mono ?_; rintro e w1 ⟨v1, rfl, c1, b1⟩; refine ⟨_, rfl, ?_⟩; obtain ⟨f1, caps1, rfl⟩ := c1.form; have HC1 := Lib.hid c1; have BB : Hid (Below (tokW ⟨2, s, 0, a⟩ w).heap.size (tokW ⟨2, s, 0, a⟩ w) w1) := Lib.hid (by first | exact b1 | exact (Below.refl _ _).drew.trans b1); have ⟨q1, q2, q3, q4⟩ := tokW_facts BB.out; clear c1 b1)
      | (refine step_call_fn (by rfl) 48 #[] #[] (by rfl) call33 #[] (by simp) ?_; refine (tails_any _).mono ?_; rintro e w2 ⟨v2, rfl, c2, b2⟩; refine ⟨_, rfl, ?_⟩; obtain ⟨f2, caps2, rfl⟩ := c2.form; have HC2 := Lib.hid c2; have BC := Lib.hid (by first | exact b2 | exact (Below.refl _ _).drew.trans b2); have HC1 := Lib.hid (HC1.out.below BC.out); have BB := Lib.hid (BB.out.trans (BC.out.mono BB.out.size)); have ⟨q1, q2, q3, q4⟩ := tokW_facts BB.out; clear c2 b2)
      | (refine step_call_fn (by rfl) 71 #[.tmp 34, .tmp 35, .tmp 36] #[9, 82, 82] (by rfl) call31 #[.string s, .func (.func f1) #[] caps1, .func (.func f2) #[] caps2] (by simp [go_sem]) ?_; refine (isWord_any s _ _ upp tl _ (by omega) tl_wide HC1.out HC2.out).mono ?_; rw [hx.out]; rintro e w3 ⟨rfl, b3⟩; refine ⟨_, rfl, ?_⟩; have BB := Lib.hid (BB.out.trans (b3.mono BB.out.size)); have ⟨q1, q2, q3, q4⟩ := tokW_facts BB.out; clear b3)
      | fail)) | fail)
    all_goals
      go_wp2
      go_ret
      exact ⟨rfl, tokW_below BB.out⟩
set_option maxRecDepth 100000 in
set_option maxHeartbeats 1000000 in
theorem right_5 (s : ByteArray) (a : Int) (w : World) (hs : s.size ≤ 100000000) (ha : 0 ≤ a) (x y : Bool) (hx : Hid (isw opr opr s.data.toList = x)) (hy : Hid (key s.data.toList = y)) :
    Calls Tryz.prog 39 #[tokV ⟨5, s, 0, a⟩] w (RB (x && !y) w) := by
  unfold tokV
  have ha0 : decide (a < 0) = false := by simpa using ha
  have K := fun W => key_any s W
  rw [hy.out] at K
  have KK := Lib.hid K
  clear K
  cases x <;> cases y
  all_goals
    go_enter Tryz.func39, Tryz.ntmps39
    go_upto_region 13 with (fail)
    (first | go_region_law ((first
      | (refine step_call_fn (by rfl) 53 #[] #[] (by rfl) call36 #[] (by simp) ?_; refine (operators_any _).mono ?_; rintro e w2 ⟨v2, rfl, c2, b2⟩; refine ⟨_, rfl, ?_⟩; obtain ⟨f2, caps2, rfl⟩ := c2.form; have HC2 := Lib.hid c2; have BC := Lib.hid (by first | exact b2 | exact (Below.refl _ _).drew.trans b2); have HC1 := Lib.hid (HC1.out.below BC.out); have BB := Lib.hid (BB.out.trans (BC.out.mono BB.out.size)); have ⟨q1, q2, q3, q4⟩ := tokW_facts BB.out; clear c2 b2)
      | (refine step_call_fn (by rfl) 53 #[] #[] (by rfl) call36 #[] (by simp) ?_; refine (operators_any _).mono ?_; rintro e w1 ⟨v1, rfl, c1, b1⟩; refine ⟨_, rfl, ?_⟩; obtain ⟨f1, caps1, rfl⟩ := c1.form; have HC1 := Lib.hid c1; have BB : Hid (Below (tokW ⟨5, s, 0, a⟩ w).heap.size (tokW ⟨5, s, 0, a⟩ w) w1) := Lib.hid (by first | exact b1 | exact (Below.refl _ _).drew.trans b1); have ⟨q1, q2, q3, q4⟩ := tokW_facts BB.out; clear c1 b1)
      | (refine step_call_fn (by rfl) 71 #[.tmp 60, .tmp 61, .tmp 62] #[9, 82, 82] (by rfl) call31 #[.string s, .func (.func f1) #[] caps1, .func (.func f2) #[] caps2] (by simp [go_sem]) ?_; refine (isWord_any s _ _ opr opr _ (by omega) opr_wide HC1.out HC2.out).mono ?_; rw [hx.out]; rintro e w3 ⟨rfl, b3⟩; refine ⟨_, rfl, ?_⟩; have BB := Lib.hid (BB.out.trans (b3.mono BB.out.size)); have ⟨q1, q2, q3, q4⟩ := tokW_facts BB.out; clear b3)
      | (refine step_call_fn_if (by rfl) 73 #[.tmp 66] #[9] (by rfl) call24 #[.string s] (by simp [go_sem]) ?_; refine (KK.out _).mono ?_; rintro e w4 ⟨rfl, rfl⟩; refine ⟨_, rfl, ?_⟩)
      | fail)) | fail)
    all_goals
      go_wp2
      go_ret
      exact ⟨rfl, tokW_below BB.out⟩
end Go.Proofs.YtggjckalmlploaaGreatDoor.Lx
