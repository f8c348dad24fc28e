/- The classes of the program: letters, digits, what follows in names, operators. -/
import Derived.Test.YtkmgapieoedelaaCls
namespace Go.Proofs.Ytkmgapieoedelaa
open Go.RowKit Go.Proofs.LexMath

theorem Cls.form {w : World} {v : Value} {p : Int → Bool} (h : Cls w v p) : ∃ f caps, v = .func (.func f) #[] caps := by
  obtain ⟨f, caps, e, _⟩ := h
  exact ⟨f, caps, e⟩
theorem beq_turn (a b : Int) : (a == b) = (b == a) := by rw [Bool.eq_iff_iff, beq_iff_eq, beq_iff_eq]; exact eq_comm
set_option maxRecDepth 100000 in
theorem opr_any (r : Int) : ([33, 36, 37, 38, 42, 43, 45, 47, 58, 60, 61, 62, 63, 64, 94, 124] : Bs).any (fun c => iv c == r) = opr r := by
  simp only [List.any_cons, List.any_nil, Bool.or_false, beq_turn _ r]
  simp only [opr, Bool.or_assoc]
  rfl
theorem operators_any (w : World) : Calls Try.prog 48 #[] w (CRet w opr) := by
  go_enter Try.func48, Try.ntmps48
  go_wp2_with fail
  refine (oneOf_any _ _ (by decide) (by decide)).mono ?_
  rintro e w1 ⟨v1, rfl, c1, b1⟩
  go_wp2_with fail
  go_ret
  refine ⟨v1, rfl, c1.congr fun r => ?_, b1⟩
  exact opr_any r
theorem cells_new (w : World) (cs : Array Value) (t : TypeId) (i : Nat) : (w.alloc (.cells cs t)).cell? ⟨w.heap.size, i, none⟩ = cs[i]? := by
  have h := heap_alloc_new w (.cells cs t)
  unfold World.cell?
  rw [h]; rfl
end Go.Proofs.Ytkmgapieoedelaa
