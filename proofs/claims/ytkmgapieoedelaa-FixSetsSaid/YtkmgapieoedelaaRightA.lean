/- The contract of Right: whether a token may be. -/
import Derived.Test.YtkmgapieoedelaaTokMath
import Derived.Deep.DeepCutAuto
import Derived.Deep.DeepCutAuto
namespace Go
theorem step_call_fn_if {P : Program} {w : World} {ops : Array Oper} {o : Oper} {a : Act} {K : Act → World → Prop} {Q : Exit → Act → World → Prop} {E : Prop} (hw : Region.wanted o (yielded ops a.tmps) = true) (f : FuncId) (xs : Array Operand) (ats : Array TypeId)
    (ho : o.op = .call { callee := .value (.func f), args := xs, argTypes := ats }) (hf : ∀ vs w, (callFunc f vs).run P w = .ok (.enter f vs) w) (vs : Array Value) (hx : xs.map a.eval = vs)
    (h : Calls P f vs w fun e w' => ∃ v, e = .returned v ∧ K (a.put o.dst v) w') : if Region.wanted o (yielded ops a.tmps) = true then Oper.wp P o a w K Q else E := by
  rw [if_pos hw]
  subst hx
  unfold Oper.wp
  have e : execOp a.eval o = callFunc f (xs.map a.eval) := by
    obtain ⟨dst, op, ty, pos, after, guard⟩ := o
    simp only at ho
    subst ho
    simp [execOp, resolve, invoke, Act.eval, Deferred.ofValue]
  rw [e, hf, Oper.upon_enter]
  refine h.mono ?_
  rintro e w' ⟨v, rfl, hw⟩
  exact hw
end Go
namespace Go.Proofs.Ytkmgapieoedelaa
open Go.RowKit Go.Proofs.LexMath

def tokW (t : Tok) (w : World) : World := w.alloc (.cells #[.int .i64 t.kind, .string t.text, .int .i64 t.num, .int .i64 t.at_] 52)
/-- What may be beside the place and the number. -/
def kindB (k : Int) (s : ByteArray) (n : Int) : Bool :=
  if k = 1 then isw low tl s.data.toList && !key s.data.toList
  else if k = 2 then isw upp tl s.data.toList
  else if k = 3 then s.data.toList.isEmpty && decide (wr n = n)
  else if k = 4 then decide (s.size ≤ 200)
  else if k = 5 then isw opr opr s.data.toList && !key s.data.toList
  else if k = 6 then key s.data.toList
  else false
theorem right_kind (t : Tok) (h0 : 0 ≤ t.at_) (h1 : t.kind = 3 ∨ t.num = 0) : rightB t = kindB t.kind t.text t.num := by
  have e : decide (0 ≤ t.at_) = true := by simpa using h0
  have hl : t.bytes.length = t.text.size := rfl
  unfold rightB kindB
  rw [e, Bool.true_and, hl]
  unfold Tok.bytes
  by_cases h3 : t.kind = 3
  · simp [h3]
  · have hn : decide (t.num = 0) = true := by rcases h1 with h1 | h1; exact absurd h1 h3; simpa using h1
    simp [h3, hn]
theorem right_at (t : Tok) (h0 : ¬ 0 ≤ t.at_) : rightB t = false := by simp [rightB, h0]
theorem right_num (t : Tok) (h1 : ¬ (t.kind = 3 ∨ t.num = 0)) : rightB t = false := by
  have a : ¬ t.kind = 3 := fun h => h1 (.inl h)
  have b : ¬ t.num = 0 := fun h => h1 (.inr h)
  simp [rightB, a, b]
def RB (b : Bool) (W : World) (e : Ending) (w' : World) : Prop := e = .returned (.bool b) ∧ Below W.heap.size W w'
theorem tokW_facts {t : Tok} {w w' : World} (b : Below (tokW t w).heap.size (tokW t w) w') :
    w'.cell? ⟨w.heap.size, 0, none⟩ = some (.int .i64 t.kind) ∧ w'.cell? ⟨w.heap.size, 1, none⟩ = some (.string t.text) ∧ w'.cell? ⟨w.heap.size, 2, none⟩ = some (.int .i64 t.num) ∧ w'.cell? ⟨w.heap.size, 3, none⟩ = some (.int .i64 t.at_) :=
  (TokBlk.below (show TokBlk (tokW t w) w.heap.size t from heap_alloc_new w _) b (by simp [tokW])).facts.1
theorem tokW_below {t : Tok} {w w' : World} (b : Below (tokW t w).heap.size (tokW t w) w') : Below w.heap.size w w' := ((Below.refl _ _).alloc (Nat.le_refl _) _).trans (b.mono (by simp [tokW]))
theorem call31 (vs : Array Value) (w : World) : (callFunc 42 vs).run Try.prog w = .ok (.enter 42 vs) w := run_callFunc Try.func42 (by kernel_rfl) (by kernel_rfl) vs w
theorem call36 (vs : Array Value) (w : World) : (callFunc 48 vs).run Try.prog w = .ok (.enter 48 vs) w := run_callFunc Try.func48 (by kernel_rfl) (by kernel_rfl) vs w
theorem call24 (vs : Array Value) (w : World) : (callFunc 45 vs).run Try.prog w = .ok (.enter 45 vs) w := run_callFunc Try.func45 (by kernel_rfl) (by kernel_rfl) vs w
set_option maxRecDepth 100000 in
set_option maxHeartbeats 1000000 in
theorem right_5 (s : ByteArray) (a : Int) (w : World) (hs : s.size ≤ 9223372036854775807) (ha : 0 ≤ a) (x y : Bool) (hx : Hid (isw opr opr s.data.toList = x)) (hy : Hid (key s.data.toList = y)) :
    Calls Try.prog 31 #[tokV ⟨5, s, 0, a⟩] w (RB (x && !y) w) := by
  unfold tokV
  have ha0 : decide (a < 0) = false := by simpa using ha
  have K := fun W => key_any s W
  rw [hy.out] at K
  have KK := Lib.hid K
  clear K
  cases x <;> cases y
  all_goals
    go_enter Try.func31, Try.ntmps31
    go_upto_region 13 with (fail)
    (first | go_region_law ((first
      | (refine step_call_fn (by rfl) 48 #[] #[] (by rfl) call36 #[] (by simp) ?_; refine (operators_any _).mono ?_; rintro e w2 ⟨v2, rfl, c2, b2⟩; refine ⟨_, rfl, ?_⟩; obtain ⟨f2, caps2, rfl⟩ := c2.form; have HC2 := Lib.hid c2; have BC := Lib.hid (by first | exact b2 | exact (Below.refl _ _).drew.trans b2); have HC1 := Lib.hid (HC1.out.below BC.out); have BB := Lib.hid (BB.out.trans (BC.out.mono BB.out.size)); have ⟨q1, q2, q3, q4⟩ := tokW_facts BB.out; clear c2 b2)
      | (refine step_call_fn (by rfl) 48 #[] #[] (by rfl) call36 #[] (by simp) ?_; refine (operators_any _).mono ?_; rintro e w1 ⟨v1, rfl, c1, b1⟩; refine ⟨_, rfl, ?_⟩; obtain ⟨f1, caps1, rfl⟩ := c1.form; have HC1 := Lib.hid c1; have BB : Hid (Below (tokW ⟨5, s, 0, a⟩ w).heap.size (tokW ⟨5, s, 0, a⟩ w) w1) := Lib.hid (by first | exact b1 | exact (Below.refl _ _).drew.trans b1); have ⟨q1, q2, q3, q4⟩ := tokW_facts BB.out; clear c1 b1)
      | (refine step_call_fn (by rfl) 42 #[.tmp 60, .tmp 61, .tmp 62] #[9, 63, 63] (by rfl) call31 #[.string s, .func (.func f1) #[] caps1, .func (.func f2) #[] caps2] (by simp [go_sem]) ?_; refine (isWord_any s _ _ opr opr _ (by omega) opr_wide HC1.out HC2.out).mono ?_; rw [hx.out]; rintro e w3 ⟨rfl, b3⟩; refine ⟨_, rfl, ?_⟩; have BB := Lib.hid (BB.out.trans (b3.mono BB.out.size)); have ⟨q1, q2, q3, q4⟩ := tokW_facts BB.out; clear b3)
      | (refine step_call_fn_if (by rfl) 45 #[.tmp 66] #[9] (by rfl) call24 #[.string s] (by simp [go_sem]) ?_; refine (KK.out _).mono ?_; rintro e w4 ⟨rfl, rfl⟩; refine ⟨_, rfl, ?_⟩)
      | fail)) | fail)
    all_goals
      go_wp2
      go_ret
      exact ⟨rfl, tokW_below BB.out⟩
end Go.Proofs.Ytkmgapieoedelaa
