/- A call of a function value that lies in a slot, as a law for the walk. -/
import Derived.WalkKit
import Derived.Test.YtlalnmefppbebaaRows
namespace Go
theorem wpList_call_slot {P : Program} {w : World} {ops : Array Oper} {rest : List Oper} {o : Oper} {a : Act} {Q : Exit → Act → World → Prop} (hgd : o.guard = none) (t : Tmp) (xs : Array Operand) (ats : Array TypeId)
    (ho : o.op = .call { callee := .value (.tmp t), args := xs, argTypes := ats }) (f : FuncId) (cap : Array Value) (hv : a.eval (.tmp t) = .func (.func f) #[] cap) (hf : ∀ vs w, (callFunc f vs).run P w = .ok (.enter f vs) w) (vs : Array Value) (hx : xs.map a.eval ++ cap = vs)
    (h : Calls P f vs w fun e w' => ∃ v, e = .returned v ∧ wpList P ops Q rest (a.put o.dst v) w') : wpList P ops Q (o :: rest) a w := by
  refine wpList_plain hgd fun K hK => ?_
  subst hx
  unfold Oper.wp
  have e : execOp a.eval o = callFunc f (xs.map a.eval ++ cap) := by
    obtain ⟨dst, op, ty, pos, after, guard⟩ := o
    simp only at ho
    subst ho
    simp [execOp, resolve, invoke, hv, Deferred.ofValue]
  rw [e, hf, Oper.upon_enter]
  refine h.mono ?_
  rintro e w' ⟨v, rfl, hw⟩
  exact hK _ _ hw
theorem run_callFunc {P : Program} {f : FuncId} {fn : Func} (hq : P.funcs[f]? = some fn) (hn : (fn.name == "runtime.NumGoroutine") = false) (hb : fn.body.isNone = false) (vs : Array Value) (w : World) : (callFunc f vs).run P w = .ok (.enter f vs) w := by
  have hn' : ¬ fn.name = "runtime.NumGoroutine" := by simpa using hn
  have hb' : ¬ fn.body = none := fun h => by simp [h] at hb
  unfold callFunc
  simp [hq, hn', hb']
end Go
namespace Go.Proofs.Ytlalnmefppbebaa
theorem call30 (vs : Array Value) (w : World) : (callFunc 71 vs).run Try.prog w = .ok (.enter 71 vs) w := run_callFunc Try.func71 (by kernel_rfl) (by kernel_rfl) vs w
theorem call32 (vs : Array Value) (w : World) : (callFunc 47 vs).run Try.prog w = .ok (.enter 47 vs) w := run_callFunc Try.func47 (by kernel_rfl) (by kernel_rfl) vs w
end Go.Proofs.Ytlalnmefppbebaa
