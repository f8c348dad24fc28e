/- Whether a token may be: the contracts. -/
import Derived.WalkKit
import Derived.Test.YtlalnmefppbebaaSlot
import Derived.Test.YtlalnmefppbebaaRows
import Derived.Test.YtlalnmefppbebaaLxM
import Derived.ProofKit
import Derived.Below
import Derived.Deep.OwnRows
import Derived.Lib.Hide
import Derived.Lib.OthersKept
import Derived.Lib.TrimUEq
import Derived.Deep.RegionLaw
import Derived.Deep.QuietTactic
import Derived.BigQuiet
import Derived.Maps.AppendAt
import Derived.Lib.AppendStr
import Derived.Deep.DeepCutAuto
import Derived.Deep.RegionHeld3
/- A call of a function value that lies in a slot, as a law for the walk. -/
namespace Go
/-- The same where the operation is guarded, and its guard says yes. -/
theorem wpList_call_slot_if {P : Program} {w : World} {ops : Array Oper} {rest : List Oper} {o : Oper} {a : Act} {Q : Exit → Act → World → Prop} (hgd : Region.wanted o (yielded ops a.tmps) = true) (t : Tmp) (xs : Array Operand) (ats : Array TypeId)
    (ho : o.op = .call { callee := .value (.tmp t), args := xs, argTypes := ats }) (f : FuncId) (cap : Array Value) (hv : a.eval (.tmp t) = .func (.func f) #[] cap) (hf : ∀ vs w, (callFunc f vs).run P w = .ok (.enter f vs) w) (vs : Array Value) (hx : xs.map a.eval ++ cap = vs)
    (h : Calls P f vs w fun e w' => ∃ v, e = .returned v ∧ wpList P ops Q rest (a.put o.dst v) w') : wpList P ops Q (o :: rest) a w := by
  refine wpList_step fun K hK => ?_
  rw [if_pos hgd]
  subst hx
  unfold Oper.wp
  have e : execOp a.eval o = callFunc f (xs.map a.eval ++ cap) := by
    obtain ⟨dst, op, ty, pos, after, guard⟩ := o
    simp only at ho
    subst ho
    simp [execOp, resolve, invoke, hv, Deferred.ofValue]
  rw [e, hf, Oper.upon_enter]
  refine h.mono ?_
  rintro e w' ⟨v, rfl, hw⟩
  exact hK _ _ hw
end Go
namespace Go.Proofs.Ytlalnmefppbebaa.Lx
theorem call63 (vs : Array Value) (w : World) : (callFunc 87 vs).run Try.prog w = .ok (.enter 87 vs) w := run_callFunc Try.func87 (by kernel_rfl) (by kernel_rfl) vs w
theorem call64 (vs : Array Value) (w : World) : (callFunc 88 vs).run Try.prog w = .ok (.enter 88 vs) w := run_callFunc Try.func88 (by kernel_rfl) (by kernel_rfl) vs w
theorem call65 (vs : Array Value) (w : World) : (callFunc 89 vs).run Try.prog w = .ok (.enter 89 vs) w := run_callFunc Try.func89 (by kernel_rfl) (by kernel_rfl) vs w
end Go.Proofs.Ytlalnmefppbebaa.Lx
/- Slices of tokens, as lists, in a world. -/
namespace Go.Proofs.Ytlalnmefppbebaa.Lx
open Go.RowKit Go.Proofs.LexMath

def _root_.Go.Proofs.LexMath.Tok.cells (n : Tok) : List Value := [.int .i64 n.kind, .string n.text, .int .i64 n.num, .int .i64 n.at_]
def tokCells (ns : List Tok) : List Value := ns.flatMap Tok.cells
/-- Cells, one behind the other. -/
def CellsIn (w : World) (b off : Nat) (cs : List Value) : Prop := ∀ j u, cs[j]? = some u → w.cell? ⟨b, off + j, none⟩ = some u
/-- A slice of n elements of so many cells each. -/
def SliceAt (w : World) (size : Nat) (v : Value) (n : Nat) (cs : List Value) : Prop :=
  cs.length = n * size ∧ ∃ p cap, v = .slice p n cap ∧ n ≤ cap ∧ cap ≤ maxLen ∧ (n ≠ 0 → ∃ b off, p = some ⟨b, off, none⟩ ∧ b < w.heap.size ∧ CellsIn w b off cs)
def ToksAt (w : World) (v : Value) (ns : List Tok) : Prop := SliceAt w 4 v ns.length (tokCells ns)
theorem length_tokCells (ns : List Tok) : (tokCells ns).length = ns.length * 4 := by
  induction ns with
  | nil => rfl
  | cons n ns ih =>
    unfold tokCells at ih ⊢
    rw [List.flatMap_cons, List.length_append, ih]
    simp [Tok.cells]
    omega
theorem take_get {α : Type} {l : List α} {n j : Nat} {u : α} (h : (l.take n)[j]? = some u) : l[j]? = some u := by
  rw [List.getElem?_take] at h
  split at h
  · exact h
  · simp at h
theorem CellsIn.kept {w w' : World} {b off : Nat} {cs : List Value} (h : CellsIn w b off cs) (e : w'.heap[b]? = w.heap[b]?) : CellsIn w' b off cs :=
  fun j u hj => by rw [World.cell?_of_block (w := w) (w' := w') (a := ⟨b, off + j, none⟩) e]; exact h j u hj
theorem SliceAt.below {w w' : World} {size n : Nat} {v : Value} {cs : List Value} (h : SliceAt w size v n cs) (b : Below w.heap.size w w') : SliceAt w' size v n cs := by
  obtain ⟨h1, p, cap, rfl, h2, h3, h4⟩ := h
  refine ⟨h1, p, cap, rfl, h2, h3, fun hn => ?_⟩
  obtain ⟨bk, off, rfl, hb, hc⟩ := h4 hn
  exact ⟨bk, off, rfl, Nat.lt_of_lt_of_le hb b.size, hc.kept (b.block bk hb)⟩
theorem SliceAt.of_owns {w : World} {base : Nat} {e : TypeId} {size n : Nat} {v : Value} {xs : List Value} (h : w.ownsRow base e size v n xs) : SliceAt w size v n xs := by
  obtain ⟨hl, h⟩ := h
  rcases h with ⟨rfl, rfl⟩ | ⟨g, cap, cur, rfl, hb, hg, hn, hm, hs, ht⟩
  · exact ⟨hl, none, 0, rfl, Nat.le_refl _, by unfold maxLen; omega, fun h => absurd rfl h⟩
  · refine ⟨hl, _, cap, rfl, hn, hm, fun _ => ⟨g, 0, rfl, ?_, ?_⟩⟩
    · exact (Array.getElem?_eq_some_iff.1 hg).1
    · intro j u hj
      rw [← ht] at hj
      have hj' := take_get hj
      simp [World.cell?, hg]
      simpa using hj'
theorem SliceAt.nil (w : World) (size : Nat) : SliceAt w size (.slice none 0 0) 0 [] := ⟨by simp, none, 0, rfl, Nat.le_refl _, by unfold maxLen; omega, fun h => absurd rfl h⟩
theorem ToksAt.below {w w' : World} {v : Value} {ns : List Tok} (h : ToksAt w v ns) (b : Below w.heap.size w w') : ToksAt w' v ns := SliceAt.below h b
end Go.Proofs.Ytlalnmefppbebaa.Lx
/- Classes of characters: function values that tell whether a character is one of those that are meant. -/
namespace Go.Proofs.Ytlalnmefppbebaa.Lx
open Go.RowKit Go.Proofs.LexMath

theorem ret_bool {a b : Bool} (h : a = b) : Ending.returned (.bool a) = .returned (.bool b) := by rw [h]
/-- A function value that tells of a character whether it is one of those that are meant. -/
def Cls (w : World) (v : Value) (p : Int → Bool) : Prop :=
  ∃ f caps, v = .func (.func f) #[] caps ∧ (∀ vs W, (callFunc f vs).run Try.prog W = .ok (.enter f vs) W) ∧
    ∀ r W, Below w.heap.size w W → Calls Try.prog f (#[.int .i32 r] ++ caps) W fun e W' => e = .returned (.bool (p r)) ∧ Below W.heap.size W W'
theorem Cls.below {w w' : World} {v : Value} {p : Int → Bool} (h : Cls w v p) (b : Below w.heap.size w w') : Cls w' v p := by
  obtain ⟨f, caps, rfl, hf, hc⟩ := h
  exact ⟨f, caps, rfl, hf, fun r W hW => hc r W (b.trans (hW.mono b.size))⟩
theorem Cls.congr {w : World} {v : Value} {p q : Int → Bool} (h : Cls w v p) (e : ∀ r, p r = q r) : Cls w v q := (funext e : p = q) ▸ h
/-- A function that returns a class. -/
def CRet (W : World) (p : Int → Bool) (e : Ending) (w' : World) : Prop := ∃ v, e = .returned v ∧ Cls w' v p ∧ Below W.heap.size W w'
theorem CRet.congr {W w' : World} {p q : Int → Bool} {e : Ending} (h : CRet W p e w') (g : ∀ r, p r = q r) : CRet W q e w' := (funext g : p = q) ▸ h

theorem between1_any (r a b : Int) (x y : Nat) (w : World) (hx : w.cell? ⟨x, 0, none⟩ = some (.int .i32 a)) (hy : w.cell? ⟨y, 0, none⟩ = some (.int .i32 b)) :
    Calls Try.prog 87 #[.int .i32 r, .pointer (some ⟨x, 0, none⟩), .pointer (some ⟨y, 0, none⟩)] w fun e w' => e = .returned (.bool (decide (a ≤ r) && decide (r ≤ b))) ∧ w = w' := by
  by_cases h : a ≤ r
  · have h1 : decide (a ≤ r) = true := by simpa using h
    go_enter Try.func87, Try.ntmps87
    go_wp2
    go_ret
    exact ⟨ret_bool (by simp [h]), rfl⟩
  · have h1 : decide (a ≤ r) = false := by simpa using h
    go_enter Try.func87, Try.ntmps87
    go_wp2
    go_ret
    exact ⟨ret_bool (by simp), rfl⟩
theorem cell_new (w : World) (v : Value) (t : TypeId) : (w.alloc (.cells #[v] t)).cell? ⟨w.heap.size, 0, none⟩ = some v := by
  have h := heap_alloc_new w (.cells #[v] t)
  unfold World.cell?
  rw [h]; rfl
theorem between_any (a b : Int) (w : World) : Calls Try.prog 79 #[.int .i32 a, .int .i32 b] w (CRet w fun r => decide (a ≤ r) && decide (r ≤ b)) := by
  go_enter Try.func79, Try.ntmps79
  go_wp2
  go_ret
  refine ⟨_, rfl, ⟨_, _, rfl, call63, fun r W hW => ?_⟩, ((Below.refl _ _).alloc (Nat.le_refl _) _).alloc (by simp) _⟩
  have h1 : W.cell? ⟨w.heap.size, 0, none⟩ = some (.int .i32 a) := by
    rw [hW.cell (by simp; omega)]
    rw [World.cell?_alloc_lt _ _ _ (by simp)]
    exact cell_new w _ _
  have h2 : W.cell? ⟨w.heap.size + 1, 0, none⟩ = some (.int .i32 b) := by
    rw [hW.cell (by simp)]
    simp
  refine (between1_any r a b _ _ W h1 h2).mono ?_
  rintro e w' ⟨rfl, rfl⟩
  exact ⟨rfl, Below.refl _ _⟩

set_option maxRecDepth 100000 in
set_option maxHeartbeats 400000 in
theorem oneOf1_any (r : Int) (s : ByteArray) (x : Nat) (w : World) (hs : ∀ i (h : i < s.size), (s[i]'h).toNat < 128) (hx : w.cell? ⟨x, 0, none⟩ = some (.string s)) (_hm : s.size ≤ 1000) :
    Calls Try.prog 89 #[.int .i32 r, .pointer (some ⟨x, 0, none⟩)] w fun e w' => e = .returned (.bool (s.data.toList.any fun c => iv c == r)) ∧ Below w.heap.size w w' := by
  have bi := below_iter w s
  have si := size_iter w s
  have HS := Lib.hid hs
  clear hs
  go_enter Try.func89, Try.ntmps89
  go_wp2
  go_loopw [5] (fun a wr => ∃ pos : Nat, pos ≤ s.size ∧ wr = w.iter s pos ∧ (s.data.toList.take pos).any (fun c => iv c == r) = false) (fun _ wr => s.size - wr.iterPos w.heap.size)
  case atStart => exact ⟨0, Nat.zero_le _, rfl, rfl⟩
  case round =>
    obtain ⟨pos, hps, rfl, hn⟩ := hrel
    have HN := Lib.hid hn
    clear hn
    by_cases hp : pos < s.size
    · have hnx : ∀ ty, (Instr.next (.pointer (some ⟨w.heap.size, 0, none⟩)) true ty).run Try.prog (w.iter s pos) = _ := fun ty => run_next_ascii w s pos ty hp (HS.out pos hp)
      have hl : pos < s.data.toList.length := hp
      have e : s.data.toList.take (pos + 1) = s.data.toList.take pos ++ [s[pos]] := by rw [List.take_succ_eq_append_getElem hl]; rfl
      have HE := Lib.hid e
      clear e
      obtain ⟨c, hc⟩ : ∃ c, c = s[pos] := ⟨_, rfl⟩
      rw [← hc] at hnx
      have HC := Lib.hid hc
      clear hc
      go_wp2
      · go_ret
        refine ⟨ret_bool ?_, bi _⟩
        have hcr : ((c.toNat : Int) == r) = true := by assumption
        symm
        rw [List.any_eq_true]
        exact ⟨c, by rw [HC.out]; exact List.getElem_mem hl, hcr⟩
      · go_roundw
        case rel =>
          have hcr : ((c.toNat : Int) == r) = false := by assumption
          exact ⟨pos + 1, by omega, rfl, by rw [HE.out, List.any_append, HN.out, ← HC.out]; simpa [iv] using hcr⟩
        case measure => simp; omega
    · have hnx : ∀ ty, (Instr.next (.pointer (some ⟨w.heap.size, 0, none⟩)) true ty).run Try.prog (w.iter s pos) = _ := fun ty => run_next_end w s pos ty hp
      go_wp2
      go_ret
      refine ⟨ret_bool ?_, bi _⟩
      rw [← HN.out, List.take_of_length_le (by show s.data.size ≤ pos; have : s.size = s.data.size := rfl; omega)]
theorem oneOf_any (s : ByteArray) (w : World) (hs : ∀ i (h : i < s.size), (s[i]'h).toNat < 128) (hm : s.size ≤ 1000) : Calls Try.prog 83 #[.string s] w (CRet w fun r => s.data.toList.any fun c => iv c == r) := by
  have HS := Lib.hid hs
  clear hs
  go_enter Try.func83, Try.ntmps83
  go_wp2
  go_ret
  refine ⟨_, rfl, ⟨_, _, rfl, call65, fun r W hW => ?_⟩, (Below.refl _ _).alloc (Nat.le_refl _) _⟩
  have h1 : W.cell? ⟨w.heap.size, 0, none⟩ = some (.string s) := by
    rw [hW.cell (by simp)]
    exact cell_new w _ _
  exact oneOf1_any r s _ W HS.out h1 hm
def pred (ps : List (Int → Bool)) (k : Nat) : Int → Bool := ps.getD k fun _ => false
theorem any_take (ps : List (Int → Bool)) (r : Int) (k : Nat) (h : k < ps.length) : (ps.take (k + 1)).any (fun p => p r) = ((ps.take k).any (fun p => p r) || pred ps k r) := by
  rw [List.take_succ_eq_append_getElem h, List.any_append]
  have e : pred ps k = ps[k] := by simp [pred, List.getD_eq_getElem?_getD, List.getElem?_eq_getElem h]
  rw [e]
  simp only [List.any_cons, List.any_nil, Bool.or_false]
set_option maxRecDepth 100000 in
set_option maxHeartbeats 400000 in
theorem either1_any (r : Int) (g b : Nat) (vs : List Value) (ps : List (Int → Bool)) (w : World) (hn : ps.length ≤ 10) (hb : b < w.heap.size)
    (hx : w.cell? ⟨g, 0, none⟩ = some (.slice (some ⟨b, 0, none⟩) ps.length ps.length)) (hc : ∀ i, i < ps.length → w.cell? ⟨b, i, none⟩ = some (vs.getD i default) ∧ Cls w (vs.getD i default) (pred ps i)) :
    Calls Try.prog 88 #[.int .i32 r, .pointer (some ⟨g, 0, none⟩)] w fun e w' => e = .returned (.bool (ps.any fun p => p r)) ∧ Below w.heap.size w w' := by
  have HC := Lib.hid hc
  clear hc
  obtain ⟨n, hn'⟩ : ∃ n, n = ps.length := ⟨_, rfl⟩
  rw [← hn'] at hx hn
  have HNN := Lib.hid hn'
  clear hn'
  go_enter Try.func88, Try.ntmps88
  go_wp2
  go_loopw [8] (fun i wr => ∃ k : Nat, k ≤ n ∧ i = .int .i64 k ∧ Below w.heap.size w wr ∧ (ps.take k).any (fun p => p r) = false) (fun i _ => n - (intOf i).toNat)
  case atStart => exact ⟨0, Nat.zero_le _, rfl, Below.refl _ _, rfl⟩
  case round =>
    obtain ⟨wo, hwo⟩ : ∃ wo : World, wo = wr := ⟨_, rfl⟩
    subst hwo
    obtain ⟨k, hk, rfl, hbl, hf⟩ := hrel
    have HF := Lib.hid hf
    clear hf
    by_cases hlt : k < n
    · obtain ⟨h1, f, caps, hv, hf, hcl⟩ := HC.out k (by rw [← HNN.out]; exact hlt)
      rw [hv, ← hbl.cell (p := ⟨b, k, none⟩) hb] at h1
      have HW := Lib.hid hf
      have HL := Lib.hid (hcl r wo hbl)
      have HB := Lib.hid hbl
      clear hf hcl hbl hv hx
      have e := any_take ps r k (by rw [← HNN.out]; exact hlt)
      rw [HF.out, Bool.false_or] at e
      have HE := Lib.hid e
      clear e
      by_cases hp : pred ps k r = true
      · have HP := Lib.hid hp
        have HL' := HL.out
        rw [hp] at HL'
        have HL := Lib.hid HL'
        clear hp HL'
        go_wp2_with ((refine wpList_call_slot (o := ⟨some 14, _, _, _, _, _⟩) rfl 12 _ _ rfl f caps rfl HW.out (#[.int .i32 r] ++ caps) (by simp [go_sem]) ?_; refine HL.out.mono ?_; rintro e w1 ⟨rfl, hs⟩; refine ⟨_, rfl, ?_⟩; simp only [Act.put, List.setIfInBounds_toArray, List.set_cons_succ, List.set_cons_zero]; have HS := Lib.hid hs; clear hs))
        go_ret
        refine ⟨ret_bool ?_, HB.out.trans (HS.out.mono HB.out.size)⟩
        have h1 : (ps.take (k + 1)).any (fun p => p r) = true := by rw [HE.out, HP.out]
        rw [List.any_eq_true] at h1
        obtain ⟨q, hq, hq'⟩ := h1
        exact (List.any_eq_true.2 ⟨q, List.mem_of_mem_take hq, hq'⟩).symm
      · have hp' : pred ps k r = false := by simpa using hp
        have HP := Lib.hid hp'
        have HL' := HL.out
        rw [hp'] at HL'
        have HL := Lib.hid HL'
        clear hp hp' HL'
        go_wp2_with ((refine wpList_call_slot (o := ⟨some 14, _, _, _, _, _⟩) rfl 12 _ _ rfl f caps rfl HW.out (#[.int .i32 r] ++ caps) (by simp [go_sem]) ?_; refine HL.out.mono ?_; rintro e w1 ⟨rfl, hs⟩; refine ⟨_, rfl, ?_⟩; simp only [Act.put, List.setIfInBounds_toArray, List.set_cons_succ, List.set_cons_zero]; have HS := Lib.hid hs; clear hs))
        go_roundw
        case rel => exact ⟨k + 1, by omega, by go_num, HB.out.trans (HS.out.mono HB.out.size), by rw [HE.out, HP.out]⟩
        case measure => simp [intOf]; omega
    · go_wp2
      go_ret
      refine ⟨ret_bool ?_, hbl⟩
      rw [← HF.out, List.take_of_length_le (by rw [← HNN.out]; omega)]
end Go.Proofs.Ytlalnmefppbebaa.Lx
/- The classes of the program: letters, digits, what follows in names, operators. -/
namespace Go.Proofs.Ytlalnmefppbebaa.Lx
open Go.RowKit Go.Proofs.LexMath

theorem Cls.form {w : World} {v : Value} {p : Int → Bool} (h : Cls w v p) : ∃ f caps, v = .func (.func f) #[] caps := by
  obtain ⟨f, caps, e, _⟩ := h
  exact ⟨f, caps, e⟩
theorem either_any (b : Nat) (vs : List Value) (ps : List (Int → Bool)) (n : Nat) (w : World) (hn : n = ps.length) (hn10 : n ≤ 10) (hb : b < w.heap.size)
    (hc : ∀ i, i < ps.length → w.cell? ⟨b, i, none⟩ = some (vs.getD i default) ∧ Cls w (vs.getD i default) (pred ps i)) :
    Calls Try.prog 80 #[.slice (some ⟨b, 0, none⟩) n n] w (CRet w fun r => ps.any fun p => p r) := by
  have HC := Lib.hid hc
  have HN := Lib.hid hn
  clear hc hn
  go_enter Try.func80, Try.ntmps80
  go_wp2
  go_ret
  have ha : Below w.heap.size w (w.alloc (.cells #[.slice (some ⟨b, 0, none⟩) n n] 95)) := (Below.refl _ _).alloc (Nat.le_refl _) _
  refine ⟨_, rfl, ⟨_, _, rfl, call64, fun r W hW => ?_⟩, ha⟩
  have h1 : W.cell? ⟨w.heap.size, 0, none⟩ = some (.slice (some ⟨b, 0, none⟩) n n) := by
    rw [hW.cell (by simp)]
    exact cell_new w _ _
  have hs := hW.size
  simp at hs
  have HA : Below w.heap.size w W := ha.trans (hW.mono (by simp))
  have HN' := HN.out
  subst HN'
  refine either1_any r _ b vs ps W hn10 (by omega) h1 fun i hi => ?_
  have := HC.out i hi
  exact ⟨by rw [HA.cell (p := ⟨b, i, none⟩) hb]; exact this.1, this.2.below HA⟩
theorem lowers_any (w : World) : Calls Try.prog 56 #[] w (CRet w low) := by
  go_enter Try.func56, Try.ntmps56
  go_wp2_with fail
  refine (between_any _ _ _).mono ?_
  rintro e w1 ⟨v1, rfl, c1, b1⟩
  go_wp2_with fail
  go_ret
  exact ⟨v1, rfl, c1, b1⟩
theorem uppers_any (w : World) : Calls Try.prog 59 #[] w (CRet w upp) := by
  go_enter Try.func59, Try.ntmps59
  go_wp2_with fail
  refine (between_any _ _ _).mono ?_
  rintro e w1 ⟨v1, rfl, c1, b1⟩
  go_wp2_with fail
  go_ret
  exact ⟨v1, rfl, c1, b1⟩
theorem digits_cls (w : World) : Calls Try.prog 82 #[] w (CRet w dgt) := by
  go_enter Try.func82, Try.ntmps82
  go_wp2_with fail
  refine (between_any _ _ _).mono ?_
  rintro e w1 ⟨v1, rfl, c1, b1⟩
  go_wp2_with fail
  go_ret
  exact ⟨v1, rfl, c1, b1⟩
theorem beq_turn (a b : Int) : (a == b) = (b == a) := by rw [Bool.eq_iff_iff, beq_iff_eq, beq_iff_eq]; exact eq_comm
set_option maxRecDepth 100000 in
theorem opr_any (r : Int) : ([33, 36, 37, 38, 42, 43, 45, 47, 58, 60, 61, 62, 63, 64, 94, 124] : Bs).any (fun c => iv c == r) = opr r := by
  simp only [List.any_cons, List.any_nil, Bool.or_false, beq_turn _ r]
  simp only [opr, Bool.or_assoc]
  rfl
theorem und_any (r : Int) : ([95, 39] : Bs).any (fun c => iv c == r) = (r == 95 || r == 39) := by
  simp only [List.any_cons, List.any_nil, Bool.or_false, beq_turn _ r]
  rfl
theorem operators_any (w : World) : Calls Try.prog 61 #[] w (CRet w opr) := by
  go_enter Try.func61, Try.ntmps61
  go_wp2_with fail
  refine (oneOf_any _ _ (by decide) (by decide)).mono ?_
  rintro e w1 ⟨v1, rfl, c1, b1⟩
  go_wp2_with fail
  go_ret
  refine ⟨v1, rfl, c1.congr fun r => ?_, b1⟩
  exact opr_any r
theorem cells_new (w : World) (cs : Array Value) (t : TypeId) (i : Nat) : (w.alloc (.cells cs t)).cell? ⟨w.heap.size, i, none⟩ = cs[i]? := by
  have h := heap_alloc_new w (.cells cs t)
  unfold World.cell?
  rw [h]; rfl
theorem letters_any (w : World) : Calls Try.prog 81 #[] w (CRet w ltr) := by
  go_enter Try.func81, Try.ntmps81
  go_wp2_with fail
  refine (lowers_any _).mono ?_
  rintro e w1 ⟨v1, rfl, c1, b1⟩
  obtain ⟨f1, p1, rfl⟩ := c1.form
  go_wp2_with fail
  refine (uppers_any _).mono ?_
  rintro e w2 ⟨v2, rfl, c2, b2⟩
  obtain ⟨f2, p2, rfl⟩ := c2.form
  have c1' := c1.below b2
  have B2 := b1.trans (b2.mono b1.size)
  clear c1 b1 b2
  go_wp2_with fail
  have ba : Below w2.heap.size w2 (w2.alloc (.cells #[.func (.func f1) #[] p1, .func (.func f2) #[] p2] 74)) := (Below.refl _ _).alloc (Nat.le_refl _) _
  refine (either_any w2.heap.size [.func (.func f1) #[] p1, .func (.func f2) #[] p2] [low, upp] 2 _ rfl (by omega) (by simp) ?_).mono ?_
  · intro i hi
    rw [cells_new]
    have hi' : i = 0 ∨ i = 1 := by simp at hi; omega
    rcases hi' with rfl | rfl
    · exact ⟨rfl, c1'.below ba⟩
    · exact ⟨rfl, c2.below ba⟩
  rintro e w3 ⟨v3, rfl, c3, b3⟩
  go_wp2_with fail
  go_ret
  refine ⟨v3, rfl, c3.congr fun r => by simp [ltr], ?_⟩
  exact B2.trans ((ba.trans (b3.mono (by simp))).mono B2.size)
theorem tails_any (w : World) : Calls Try.prog 57 #[] w (CRet w tl) := by
  go_enter Try.func57, Try.ntmps57
  go_wp2_with fail
  refine (letters_any _).mono ?_
  rintro e w1 ⟨v1, rfl, c1, b1⟩
  obtain ⟨f1, p1, rfl⟩ := c1.form
  go_wp2_with fail
  refine (digits_cls _).mono ?_
  rintro e w2 ⟨v2, rfl, c2, b2⟩
  obtain ⟨f2, p2, rfl⟩ := c2.form
  have c1' := c1.below b2
  have B2 := b1.trans (b2.mono b1.size)
  clear c1 b1 b2
  go_wp2_with fail
  refine (oneOf_any _ _ (by decide) (by decide)).mono ?_
  rintro e w3 ⟨v3, rfl, c3, b3⟩
  obtain ⟨f3, p3, rfl⟩ := c3.form
  have d1 := c1'.below b3
  have d2 := c2.below b3
  have B3 := B2.trans (b3.mono B2.size)
  clear c1' c2 b3 B2
  go_wp2_with fail
  have ba : Below w3.heap.size w3 (w3.alloc (.cells #[.func (.func f1) #[] p1, .func (.func f2) #[] p2, .func (.func f3) #[] p3] 74)) := (Below.refl _ _).alloc (Nat.le_refl _) _
  refine (either_any w3.heap.size [.func (.func f1) #[] p1, .func (.func f2) #[] p2, .func (.func f3) #[] p3] [ltr, dgt, fun r => r == 95 || r == 39] 3 _ rfl (by omega) (by simp) ?_).mono ?_
  · intro i hi
    rw [cells_new]
    have hi' : i = 0 ∨ i = 1 ∨ i = 2 := by simp at hi; omega
    rcases hi' with rfl | rfl | rfl
    · exact ⟨rfl, d1.below ba⟩
    · exact ⟨rfl, d2.below ba⟩
    · exact ⟨rfl, (c3.congr und_any).below ba⟩
  rintro e w4 ⟨v4, rfl, c4, b4⟩
  go_wp2_with fail
  go_ret
  refine ⟨v4, rfl, c4.congr fun r => by simp [tl, Bool.or_assoc], ?_⟩
  exact B3.trans ((ba.trans (b4.mono (by simp))).mono B3.size)
end Go.Proofs.Ytlalnmefppbebaa.Lx
/- The contracts of Key, the program's and the document's: whether a text is one of the words and signs. -/
namespace Go.Proofs.Ytlalnmefppbebaa.Lx
open Go.RowKit Go.Proofs.LexMath

set_option maxRecDepth 100000 in
set_option maxHeartbeats 1000000 in
theorem key_any (s : ByteArray) (w : World) : Calls Try.prog 58 #[.string s] w fun e w' => e = .returned (.bool (key s.data.toList)) ∧ w = w' := by
  go_enter Try.func58, Try.ntmps58
  go_wp2
  all_goals go_ret
  all_goals (refine ⟨ret_bool ?_, rfl⟩; simp_all [ByteArray.toList_eq, key, keys])
def keyVals : List Value := keys.map fun k => .string (bs k)
theorem words_any (w : World) : Calls Try.prog 84 #[] w fun e w' => e = .returned (.slice (some ⟨w.heap.size, 0, none⟩) 25 25) ∧ w.alloc (.cells keyVals.toArray 9) = w' := by
  go_enter Try.func84, Try.ntmps84
  go_wp2
  go_ret
  exact ⟨rfl, rfl⟩
theorem take_contains (L : List Bs) (s : Bs) (k : Nat) (hl : k < L.length) : (L.take (k + 1)).contains s = ((L.take k).contains s || (L.getD k [] == s)) := by
  rw [List.take_succ_eq_append_getElem hl, Bool.eq_iff_iff]
  have e : L.getD k [] = L[k] := by simp [List.getD_eq_getElem?_getD, List.getElem?_eq_getElem hl]
  rw [e]
  simp only [List.contains_eq_mem, decide_eq_true_eq, List.mem_append, List.mem_singleton, Bool.or_eq_true, beq_iff_eq]
  constructor <;> rintro (h | h) <;> first | exact .inl h | exact .inr h.symm
theorem keys_take (s : Bs) (k : Nat) (h : k < 25) : (keys.take (k + 1)).contains s = ((keys.take k).contains s || (keys.getD k [] == s)) := take_contains keys s k h
set_option maxRecDepth 100000 in
set_option maxHeartbeats 400000 in
theorem rkey_any (s : ByteArray) (w : World) : Calls Try.prog 64 #[.string s] w fun e w' => e = .returned (.bool (key s.data.toList)) ∧ Below w.heap.size w w' := by
  have hcell : ∀ k, k < 25 → (w.alloc (.cells keyVals.toArray 9)).cell? ⟨w.heap.size, k, none⟩ = some (.string (bs (keys.getD k []))) := by
    intro k hk
    rw [cells_new]
    have hl : k < keys.length := hk
    simp [keyVals, List.getElem?_eq_getElem hl, List.getD_eq_getElem?_getD]
  have ba : Below w.heap.size w (w.alloc (.cells keyVals.toArray 9)) := (Below.refl _ _).alloc (Nat.le_refl _) _
  have HB := Lib.hid ba
  have HC := Lib.hid hcell
  clear ba hcell
  go_enter Try.func64, Try.ntmps64
  go_wp2_with fail
  refine (words_any _).mono ?_
  rintro e w1 ⟨rfl, hw1⟩
  have HC1 : Hid (∀ k, k < 25 → w1.cell? ⟨w.heap.size, k, none⟩ = some (.string (bs (keys.getD k [])))) := by rw [← hw1]; exact HC.out
  have HB1 : Hid (Below w.heap.size w w1) := by rw [← hw1]; exact HB.out
  clear hw1 HB HC
  go_wp2
  go_loop [4] (fun i => ∃ k : Nat, k ≤ 25 ∧ i = .int .i64 k ∧ (keys.take k).contains s.data.toList = false) (fun i => 25 - (intOf i).toNat)
  case atStart => exact ⟨0, by omega, rfl, rfl⟩
  case round =>
    obtain ⟨k, hk, rfl, hf⟩ := hrel
    have HF := Lib.hid hf
    clear hf
    by_cases hlt : k < 25
    · have e := keys_take s.data.toList k hlt
      rw [HF.out, Bool.false_or] at e
      have hc := HC1.out k hlt
      have e2 : ((bs (keys.getD k [])).toList == s.toList) = (keys.getD k [] == s.data.toList) := by rw [ByteArray.toList_eq, ByteArray.toList_eq, bs_list]
      generalize keys.getD k [] = q at *
      rw [← e2] at e
      have HE := Lib.hid e
      clear e e2
      go_wp2
      · go_ret
        refine ⟨ret_bool ?_, HB1.out⟩
        have h1 : ((bs q).toList == s.toList) = true := by assumption
        rw [h1] at HE
        have h2 := HE.out
        simp only [List.contains_eq_mem, decide_eq_true_eq] at h2
        unfold key
        simp only [List.contains_eq_mem]
        exact (decide_eq_true (List.mem_of_mem_take h2)).symm
      · have h1 : ((bs q).toList == s.toList) = false := by assumption
        go_round
        case rel => exact ⟨k + 1, by omega, by go_num, by rw [HE.out, h1]⟩
        case measure => simp [intOf]; omega
    · go_wp2
      go_ret
      refine ⟨ret_bool ?_, HB1.out⟩
      obtain rfl : k = 25 := by omega
      exact HF.out.symm
end Go.Proofs.Ytlalnmefppbebaa.Lx
/- The contract of span: how far the characters of a class go on from a place. -/
namespace Go.Proofs.Ytlalnmefppbebaa.Lx
open Go.RowKit Go.Proofs.LexMath

/-- A class that takes all characters of several bytes for the same as one byte from 128 on. -/
def Wide (p : Int → Bool) : Prop := (∀ r, 128 ≤ r → p r = true) ∨ (∀ r, 128 ≤ r → p r = false)
theorem high_bytes (s : ByteArray) (pos : Nat) (h : pos < s.size) (ha : 128 ≤ (s[pos]'h).toNat) :
    pos + (Utf8.decode s pos).2 ≤ s.size ∧ ∀ j, j < (Utf8.decode s pos).2 → 128 ≤ (s.get! (pos + j)).toNat := by
  have hn : ¬ (s[pos]'h).toNat < 128 := by omega
  have h0 : 128 ≤ (s.get! (pos + 0)).toNat := by rw [get_at s pos h]; exact ha
  have one : ∀ j, j < 1 → 128 ≤ (s.get! (pos + j)).toNat := by intro j hj; (obtain rfl : j = 0 := (by omega)); exact h0
  simp only [Utf8.decode, get_at s pos h, hn, if_false]
  split
  · rename_i h2
    simp only [Bool.and_eq_true, decide_eq_true_eq, beq_iff_eq] at h2
    split
    · refine ⟨by simp; omega, fun j hj => ?_⟩
      simp only at hj
      have : j = 0 ∨ j = 1 := by omega
      rcases this with rfl | rfl
      · exact h0
      · omega
    · exact ⟨by simp; omega, one⟩
  · split
    · rename_i h2
      simp only [Bool.and_eq_true, decide_eq_true_eq, beq_iff_eq] at h2
      split
      · refine ⟨by simp; omega, fun j hj => ?_⟩
        simp only at hj
        have : j = 0 ∨ j = 1 ∨ j = 2 := by omega
        rcases this with rfl | rfl | rfl
        · exact h0
        · omega
        · omega
      · exact ⟨by simp; omega, one⟩
    · split
      · rename_i h2
        simp only [Bool.and_eq_true, decide_eq_true_eq, beq_iff_eq] at h2
        split
        · refine ⟨by simp; omega, fun j hj => ?_⟩
          simp only at hj
          have : j = 0 ∨ j = 1 ∨ j = 2 ∨ j = 3 := by omega
          rcases this with rfl | rfl | rfl | rfl
          · exact h0
          · omega
          · omega
          · omega
        · exact ⟨by simp; omega, one⟩
      · exact ⟨by simp; omega, one⟩
theorem run_drop (p : Int → Bool) (l : Bs) (k : Nat) (h : ∀ c ∈ l.take k, p (iv c) = true) (hk : k ≤ l.length) : run p l = k + run p (l.drop k) := by
  induction k generalizing l with
  | zero => simp
  | succ k ih =>
    cases l with
    | nil => simp at hk
    | cons c l =>
      rw [List.take_succ_cons] at h
      rw [run_yes p c l (h c (by simp)), ih l (fun d hd => h d (by simp [hd])) (by simpa using hk), List.drop_succ_cons]
      omega
theorem drop_at (s : ByteArray) (pos : Nat) (h : pos < s.size) : s.data.toList.drop pos = s[pos] :: s.data.toList.drop (pos + 1) := List.drop_eq_getElem_cons (show pos < s.data.toList.length from h)
theorem get_bang (s : ByteArray) (k : Nat) (h : k < s.size) : s.get! k = s[k] := by have := get_at s k h; simpa using this
/-- One character on. -/
theorem run_rune (p : Int → Bool) (hw : Wide p) (s : ByteArray) (pos : Nat) (h : pos < s.size) (hp : p ((Utf8.decode s pos).1 : Nat) = true) :
    pos + (Utf8.decode s pos).2 ≤ s.size ∧ run p (s.data.toList.drop pos) = (Utf8.decode s pos).2 + run p (s.data.toList.drop (pos + (Utf8.decode s pos).2)) := by
  by_cases ha : (s[pos]'h).toNat < 128
  · rw [decode_ascii s pos h ha] at hp ⊢
    refine ⟨h, ?_⟩
    rw [drop_at s pos h, run_yes p _ _ hp]
    exact Nat.add_comm _ _
  · have ha' : 128 ≤ (s[pos]'h).toNat := by omega
    have hi := decode_high s pos h ha'
    obtain ⟨h1, h2⟩ := high_bytes s pos h ha'
    generalize (Utf8.decode s pos).2 = k at *
    generalize (Utf8.decode s pos).1 = r at *
    refine ⟨h1, ?_⟩
    have hall : ∀ x : Int, 128 ≤ x → p x = true := by
      rcases hw with hw | hw
      · exact hw
      · rw [hw r (by omega)] at hp; cases hp
    rw [run_drop p (s.data.toList.drop pos) k ?_ (by rw [List.length_drop]; show k ≤ s.data.size - pos; have : s.size = s.data.size := rfl; omega), List.drop_drop]
    intro c hc
    obtain ⟨j, hj, e⟩ := List.getElem_of_mem hc
    rw [List.length_take] at hj
    rw [List.getElem_take, List.getElem_drop] at e
    have hj' : pos + j < s.size := by omega
    have := h2 j (by omega)
    rw [get_bang s _ hj'] at this
    have e' : s[pos + j] = c := e
    rw [e'] at this
    exact hall _ (by unfold iv; omega)
theorem run_stop_rune (p : Int → Bool) (hw : Wide p) (s : ByteArray) (pos : Nat) (h : pos < s.size) (hp : p ((Utf8.decode s pos).1 : Nat) = false) : run p (s.data.toList.drop pos) = 0 := by
  rw [drop_at s pos h]
  apply run_no
  by_cases ha : (s[pos]'h).toNat < 128
  · rw [decode_ascii s pos h ha] at hp
    exact hp
  · have ha' : 128 ≤ (s[pos]'h).toNat := by omega
    have hi := decode_high s pos h ha'
    rcases hw with hw | hw
    · rw [hw _ (by omega)] at hp; cases hp
    · exact hw _ (by unfold iv; omega)
theorem span_form (s : ByteArray) (at_ : Nat) :
    (s.extract at_ s.size).data.toList = s.data.toList.drop at_ ∧ (s.extract at_ s.size).size = s.size - at_ := by
  have h1 : (s.extract at_ s.size).data.toList = s.data.toList.drop at_ := by
    rw [Go.Lib.extract_data, List.take_of_length_le]
    rw [List.length_drop]
    show s.data.size - at_ ≤ _
    have : s.size = s.data.size := rfl
    omega
  refine ⟨h1, ?_⟩
  have e : (s.extract at_ s.size).size = (s.extract at_ s.size).data.toList.length := rfl
  rw [e, h1, List.length_drop]
  rfl
theorem iter_block (w : World) (s : ByteArray) (pos : Nat) : (w.iter s pos).heap[w.heap.size]? = some (.stringIter s pos) := by
  simp [World.iter_heap]
/-- How the walk over a string stands: its iterator lies in a block of its own. -/
def Goes (w : World) (d : ByteArray) (pos : Nat) (wr : World) : Prop := wr.heap[w.heap.size]? = some (.stringIter d pos) ∧ Below w.heap.size w wr
theorem Goes.size {w wr : World} {d : ByteArray} {pos : Nat} (h : Goes w d pos wr) : w.heap.size < wr.heap.size := (Array.getElem?_eq_some_iff.1 h.1).1
theorem Goes.on {w wr : World} {d : ByteArray} {pos : Nat} (h : Goes w d pos wr) (q : Nat) : Goes w d q (wr.iterAt w.heap.size d q) :=
  ⟨Go.Lib.iterAt_heap wr _ d pos q h.1, Go.Lib.below_iterAt h.2 (Nat.le_refl _) d q⟩
theorem Goes.below {w wr w1 : World} {d : ByteArray} {pos : Nat} (h : Goes w d pos wr) (b : Below wr.heap.size wr w1) : Goes w d pos w1 :=
  ⟨(b.block _ h.size).trans h.1, h.2.trans (b.mono h.2.size)⟩
theorem iterPos_of {w wr : World} {d : ByteArray} {pos : Nat} (h : Goes w d pos wr) : wr.iterPos w.heap.size = pos := by
  simp [World.iterPos, h.1]
/-- The contract of span. -/
theorem span_any (s : ByteArray) (at_ : Nat) (v : Value) (p : Int → Bool) (w : World) (hat : at_ ≤ s.size) (hs : s.size ≤ 1000000000) (hw : Wide p) (hv : Cls w v p) :
    Calls Try.prog 78 #[.string s, .int .i64 at_, v] w fun e w' => e = .returned (.int .i64 ((at_ + run p (s.data.toList.drop at_) : Nat) : Int)) ∧ Below w.heap.size w w' := by
  obtain ⟨f, caps, rfl, hf, hcl⟩ := hv
  have HW := Lib.hid hf
  have HC := Lib.hid hcl
  clear hf hcl
  obtain ⟨hx1, hx2⟩ := span_form s at_
  go_enter Try.func78, Try.ntmps78
  go_wp2
  generalize s.extract at_ s.size = d at *
  have HX := Lib.hid hx1
  have HY := Lib.hid hx2
  have hd1 : d.size ≤ s.size - at_ := by omega
  clear hx1 hx2
  have RUN := Lib.hid (fun pos (h : pos < d.size) => run_rune p hw d pos h)
  have STOP := Lib.hid (fun pos (h : pos < d.size) => run_stop_rune p hw d pos h)
  clear hw
  go_loopw [8] (fun _ wr => ∃ pos : Nat, pos ≤ d.size ∧ Goes w d pos wr ∧ run p (s.data.toList.drop at_) = pos + run p (d.data.toList.drop pos)) (fun _ wr => d.size - wr.iterPos w.heap.size)
  case atStart => exact ⟨0, Nat.zero_le _, ⟨iter_block _ _ _, below_iter _ _ _⟩, by rw [HX.out]; simp⟩
  case round =>
    obtain ⟨wo, hwo⟩ : ∃ wo : World, wo = wr := ⟨_, rfl⟩
    subst hwo
    obtain ⟨pos, hps, hG, hrun⟩ := hrel
    have HG := Lib.hid hG
    have HR := Lib.hid hrun
    clear hrun hG
    by_cases hp : pos < d.size
    · have hnx : ∀ ty, (Instr.next (.pointer (some ⟨w.heap.size, 0, none⟩)) true ty).run Try.prog wo = _ := fun ty => Go.Lib.run_next_any_at wo w.heap.size d pos ty HG.out.1 hp
      have h1 := RUN.out pos hp
      have h2 := STOP.out pos hp
      have hr := decode_le d pos
      have hwp := width_pos d pos hp
      have GO := Lib.hid (HG.out.on (pos + (Utf8.decode d pos).2))
      generalize hrr : (Utf8.decode d pos).1 = r at *
      generalize hww : (Utf8.decode d pos).2 = wd at *
      clear hrr hww
      cases hpr : p (r : Int) with
      | true =>
        have H1 := Lib.hid (h1 hpr)
        have HL := HC.out r _ GO.out.2
        rw [hpr] at HL
        have HL := Lib.hid HL
        clear h1 h2 hpr
        go_wp2_with ((refine wpList_call_slot (o := ⟨some 19, _, _, _, _, _⟩) rfl 17 _ _ rfl f caps rfl HW.out (#[.int .i32 r] ++ caps) (by simp [go_sem]) ?_; refine HL.out.mono ?_; rintro e w1 ⟨rfl, hs⟩; refine ⟨_, rfl, ?_⟩; simp only [Act.put, List.setIfInBounds_toArray, List.set_cons_succ, List.set_cons_zero]; have HS := Lib.hid hs; clear hs))
        have g1 := GO.out.below HS.out
        go_roundw
        case rel => exact ⟨pos + wd, H1.out.1, g1, by rw [HR.out, H1.out.2]; omega⟩
        case measure => rw [iterPos_of HG.out, iterPos_of g1]; omega
      | false =>
        have H2 := Lib.hid (h2 hpr)
        have HL := HC.out r _ GO.out.2
        rw [hpr] at HL
        have HL := Lib.hid HL
        clear h1 h2 hpr
        go_wp2_with ((refine wpList_call_slot (o := ⟨some 19, _, _, _, _, _⟩) rfl 17 _ _ rfl f caps rfl HW.out (#[.int .i32 r] ++ caps) (by simp [go_sem]) ?_; refine HL.out.mono ?_; rintro e w1 ⟨rfl, hs⟩; refine ⟨_, rfl, ?_⟩; simp only [Act.put, List.setIfInBounds_toArray, List.set_cons_succ, List.set_cons_zero]; have HS := Lib.hid hs; clear hs))
        go_ret
        refine ⟨ret_int ?_, (GO.out.below HS.out).2⟩
        rw [HR.out, H2.out]
        omega
    · have hnx : ∀ ty, (Instr.next (.pointer (some ⟨w.heap.size, 0, none⟩)) true ty).run Try.prog wo = _ := fun ty => Go.Lib.run_next_end_at wo w.heap.size d pos ty HG.out.1 hp
      go_wp2
      go_ret
      refine ⟨ret_int ?_, HG.out.2⟩
      have h3 : pos = d.size := by omega
      have h4 : run p (d.data.toList.drop pos) = 0 := by rw [List.drop_eq_nil_of_le (by rw [h3]; exact Nat.le_refl _), run_nil]
      rw [HR.out, h4]
      have := HY.out
      omega
end Go.Proofs.Ytlalnmefppbebaa.Lx
/- Calls as steps of a region that draws its order, as laws for the walk. -/
namespace Go
section
variable {P : Program} {w : World} {ops : Array Oper} {o : Oper} {a : Act} {K : Act → World → Prop} {Q : Exit → Act → World → Prop} {E : Prop}
theorem step_call_fn (hgd : o.guard = none) (f : FuncId) (xs : Array Operand) (ats : Array TypeId)
    (ho : o.op = .call { callee := .value (.func f), args := xs, argTypes := ats }) (hf : ∀ vs w, (callFunc f vs).run P w = .ok (.enter f vs) w) (vs : Array Value) (hx : xs.map a.eval = vs)
    (h : Calls P f vs w fun e w' => ∃ v, e = .returned v ∧ K (a.put o.dst v) w') : if Region.wanted o (yielded ops a.tmps) = true then Oper.wp P o a w K Q else E := by
  have hw : Region.wanted o (yielded ops a.tmps) = true := by simp [Region.wanted, hgd]
  rw [if_pos hw]
  subst hx
  unfold Oper.wp
  have e : execOp a.eval o = callFunc f (xs.map a.eval) := by
    obtain ⟨dst, op, ty, pos, after, guard⟩ := o
    simp only at ho
    subst ho
    simp [execOp, resolve, invoke, Act.eval, Deferred.ofValue]
  rw [e, hf, Oper.upon_enter]
  refine h.mono ?_
  rintro e w' ⟨v, rfl, hw⟩
  exact hw
end
end Go
/- The contracts of the small functions: a word's token, a byte of a string. -/
namespace Go.Proofs.Ytlalnmefppbebaa.Lx
open Go.RowKit Go.Proofs.LexMath

def tokV (t : Tok) : Value := .agg #[.int .i64 t.kind, .string t.text, .int .i64 t.num, .int .i64 t.at_]
theorem call32 (vs : Array Value) (w : World) : (callFunc 56 vs).run Try.prog w = .ok (.enter 56 vs) w := run_callFunc Try.func56 (by kernel_rfl) (by kernel_rfl) vs w
/-- A block that holds a token. -/
def TokBlk (w : World) (g : Nat) (t : Tok) : Prop := w.heap[g]? = some (.cells #[.int .i64 t.kind, .string t.text, .int .i64 t.num, .int .i64 t.at_] 54 (0, 0))
theorem TokBlk.below {w w' : World} {g B : Nat} {t : Tok} (h : TokBlk w g t) (b : Below B w w') (hg : g < B) : TokBlk w' g t := (b.block g hg).trans h
theorem TokBlk.facts {w : World} {g : Nat} {t : Tok} (h : TokBlk w g t) :
    (w.cell? ⟨g, 0, none⟩ = some (.int .i64 t.kind) ∧ w.cell? ⟨g, 1, none⟩ = some (.string t.text) ∧ w.cell? ⟨g, 2, none⟩ = some (.int .i64 t.num) ∧ w.cell? ⟨g, 3, none⟩ = some (.int .i64 t.at_)) ∧
    (w.frozen? ⟨g, 0, none⟩ = false ∧ w.frozen? ⟨g, 1, none⟩ = false ∧ w.frozen? ⟨g, 2, none⟩ = false ∧ w.frozen? ⟨g, 3, none⟩ = false) :=
  ⟨⟨cell_of_row w g 0 _ _ _ h, cell_of_row w g 1 _ _ _ h, cell_of_row w g 2 _ _ _ h, cell_of_row w g 3 _ _ _ h⟩, ⟨frozen_of_row w g 0 _ _ h, frozen_of_row w g 1 _ _ h, frozen_of_row w g 2 _ _ h, frozen_of_row w g 3 _ _ h⟩⟩
end Go.Proofs.Ytlalnmefppbebaa.Lx
/- The contracts of escape and character: the byte for which the head of a text stands in a string. -/
namespace Go.Proofs.Ytlalnmefppbebaa.Lx
open Go.RowKit Go.Proofs.LexMath

theorem quiet_left {P : Program} {f : FuncId} {args : Array Value} {w : World} {n : Nat} {v : Value}
    (h : Calls P f args (w.drewN n) fun e w' => e = .returned v ∧ w.drewN n = w') : Calls P f args (w.drewN n) fun e w'' => e = .returned v ∧ ∃ m, w'' = w.drewN m :=
  h.mono fun _ _ ⟨he, hm⟩ => ⟨he, n, hm.symm⟩
theorem quiet_same_left {P : Program} {f : FuncId} {args : Array Value} {w : World} {v : Value}
    (h : Calls P f args w fun e w' => e = .returned v ∧ w = w') : Calls P f args w fun e w'' => e = .returned v ∧ w'' = w :=
  h.mono fun _ _ ⟨he, hm⟩ => ⟨he, hm.symm⟩
theorem below_drewN {B : Nat} {a w : World} (h : Below B a w) (n : Nat) : Below B a (w.drewN n) := ⟨h.os, h.tape, h.output, h.size, h.block⟩
end Go.Proofs.Ytlalnmefppbebaa.Lx
/- Rows of the call's own: bytes and tokens that are gathered, append to them, and the string that the bytes are. -/
namespace Go
open Go.RowKit
theorem World.ownsRow.after {w w' : World} {base size n : Nat} {e : TypeId} {v : Value} {xs : List Value} (h : w.ownsRow base e size v n xs) (b : Below w.heap.size w w') : w'.ownsRow base e size v n xs := by
  obtain ⟨hl, h⟩ := h
  refine ⟨hl, ?_⟩
  rcases h with h | ⟨g, cap, cur, hv, hb, hg, hr⟩
  · exact .inl h
  · exact .inr ⟨g, cap, cur, hv, hb, (b.block g (Array.getElem?_eq_some_iff.1 hg).1).trans hg, hr⟩
theorem World.ownsRow.form {w : World} {base size n : Nat} {e : TypeId} {v : Value} {xs : List Value} (h : w.ownsRow base e size v n xs) : ∃ p cap, v = .slice p n cap := by
  obtain ⟨_, ⟨rfl, rfl⟩ | ⟨g, cap, cur, hv, hr⟩⟩ := h
  · exact ⟨none, 0, rfl⟩
  · exact ⟨_, cap, hv⟩
end Go
namespace Go.Proofs.Ytlalnmefppbebaa.Lx
open Go.RowKit Go.Proofs.LexMath

def byteVals (l : Bs) : List Value := l.map fun c => .int .u8 (iv c)
theorem byteVals_len (l : Bs) : (byteVals l).length = l.length := by simp [byteVals]
/-- Bytes in a row of the call's own. -/
def BRow (base : Nat) (w : World) (v : Value) (n : Nat) (l : Bs) : Prop := w.ownsRow base 5 1 v n (byteVals l)
theorem BRow.len {base n : Nat} {w : World} {v : Value} {l : Bs} (h : BRow base w v n l) : l.length = n := by
  have := h.1
  rw [byteVals_len] at this
  omega
theorem BRow.nil (base : Nat) (w : World) : BRow base w (.slice none 0 0) 0 [] := World.ownsRow_nil _ _ _ _
theorem BRow.after {base n : Nat} {w w' : World} {v : Value} {l : Bs} (h : BRow base w v n l) (b : Below w.heap.size w w') : BRow base w' v n l := World.ownsRow.after h b
/-- Tokens in a row of the call's own. -/
def TRow (base : Nat) (w : World) (v : Value) (n : Nat) (l : List Tok) : Prop := w.ownsRow base 54 4 v n (tokCells l)
theorem TRow.len {base n : Nat} {w : World} {v : Value} {l : List Tok} (h : TRow base w v n l) : l.length = n := by
  have := h.1
  rw [length_tokCells] at this
  omega
theorem TRow.nil (base : Nat) (w : World) : TRow base w (.slice none 0 0) 0 [] := World.ownsRow_nil _ _ _ _
theorem TRow.after {base n : Nat} {w w' : World} {v : Value} {l : List Tok} (h : TRow base w v n l) (b : Below w.heap.size w w') : TRow base w' v n l := World.ownsRow.after h b
theorem TRow.at {base n : Nat} {w : World} {v : Value} {l : List Tok} (h : TRow base w v n l) : ToksAt w v l := by
  have e := h.len
  subst e
  exact SliceAt.of_owns h
end Go.Proofs.Ytlalnmefppbebaa.Lx
/- The contract of isWord. -/
namespace Go.Proofs.Ytlalnmefppbebaa.Lx
open Go.RowKit Go.Proofs.LexMath

theorem run_len (q : Int → Bool) (r : Bs) : (run q r = r.length) ↔ (r.all fun d => q (iv d)) = true := by
  induction r with
  | nil => simp [run_nil]
  | cons c r ih =>
    by_cases h : q (iv c) = true
    · rw [run_yes q c r h]; simp [h, ih]
    · have h' : q (iv c) = false := by simpa using h
      rw [run_no q c r h']; simp [h']
theorem nil_of_size {s : ByteArray} (h : ¬ 0 < s.size) : s.data.toList = [] := by
  apply List.eq_nil_of_length_eq_zero
  show s.data.size = 0
  have : s.size = s.data.size := rfl
  omega
theorem isw_at (p q : Int → Bool) (s : ByteArray) (h : 0 < s.size) : isw p q s.data.toList = (p (s[0].toNat : Nat) && decide (((1 + run q (s.data.toList.drop 1) : Nat) : Int) = (s.size : Int))) := by
  have e := drop_at s 0 h
  rw [List.drop_zero] at e
  have hl : s.data.toList.length = s.size := rfl
  have e2 := run_len q (s.data.toList.drop 1)
  have hd : (s.data.toList.drop 1).length = s.size - 1 := by rw [List.length_drop, hl]
  rw [hd] at e2
  rw [e]
  rw [show (0 : Nat) + 1 = 1 from rfl]
  generalize s.data.toList.drop 1 = r at *
  simp only [isw, List.drop_succ_cons, List.drop_zero]
  have e3 : (r.all fun d => q (iv d)) = decide (((1 + run q r : Nat) : Int) = (s.size : Int)) := by
    rw [Bool.eq_iff_iff, ← e2, decide_eq_true_eq]
    omega
  rw [e3]
  rfl
theorem isWord_any (s : ByteArray) (v1 v2 : Value) (p q : Int → Bool) (w : World) (hs : s.size ≤ 1000000000) (hq : Wide q) (h1 : Cls w v1 p) (h2 : Cls w v2 q) :
    Calls Try.prog 55 #[.string s, v1, v2] w fun e w' => e = .returned (.bool (isw p q s.data.toList)) ∧ Below w.heap.size w w' := by
  have hc := h1
  obtain ⟨f, caps, rfl, hf, hcl⟩ := hc
  obtain ⟨f2, caps2, rfl⟩ := h2.form
  have HW := Lib.hid hf
  have HQ := Lib.hid hq
  clear hf h1 hq
  by_cases h0 : 0 < s.size
  · have HV := Lib.hid (isw_at p q s h0)
    have hb : (s[0].toNat : Int) ≤ 255 := by have := s[0].toNat_lt; omega
    have a1 : s.toList.isEmpty = false := by
      rw [ByteArray.toList_eq]
      cases hx : s.data.toList with
      | nil => have : s.data.toList.length = s.size := rfl; rw [hx] at this; simp at this; omega
      | cons => rfl
    cases hp : p (s[0].toNat : Nat) with
    | true =>
      have HL := hcl (s[0].toNat : Nat) w (Below.refl _ _)
      rw [hp] at HV HL
      have HL := Lib.hid HL
      clear hp hcl
      go_enter Try.func55, Try.ntmps55
      go_wp2_with ((refine wpList_call_slot_if (o := ⟨some 14, _, _, _, _, _⟩) (by rfl) 10 _ _ rfl f caps rfl HW.out (#[.int .i32 (s[0].toNat : Nat)] ++ caps) (by simp [go_sem]) ?_; refine HL.out.mono ?_; rintro e w1 ⟨rfl, hs⟩; refine ⟨_, rfl, ?_⟩; simp only [Act.put, List.setIfInBounds_toArray, List.set_cons_succ, List.set_cons_zero]; have HS := Lib.hid hs; clear hs))
      have S := span_any s 1 _ q w1 (by omega) (by omega) HQ.out (h2.below HS.out)
      generalize 1 + run q (s.data.toList.drop 1) = m at S HV
      refine S.mono ?_
      rintro e w2 ⟨rfl, b2⟩
      clear S
      go_wp2
      go_ret
      refine ⟨ret_bool ?_, HS.out.trans (b2.mono HS.out.size)⟩
      rw [HV.out]
      rfl
    | false => 
      have HL := hcl (s[0].toNat : Nat) w (Below.refl _ _)
      rw [hp] at HV HL
      have HL := Lib.hid HL
      clear hp hcl
      go_enter Try.func55, Try.ntmps55
      go_wp2_with ((refine wpList_call_slot_if (o := ⟨some 14, _, _, _, _, _⟩) (by rfl) 10 _ _ rfl f caps rfl HW.out (#[.int .i32 (s[0].toNat : Nat)] ++ caps) (by simp [go_sem]) ?_; refine HL.out.mono ?_; rintro e w1 ⟨rfl, hs⟩; refine ⟨_, rfl, ?_⟩; simp only [Act.put, List.setIfInBounds_toArray, List.set_cons_succ, List.set_cons_zero]; have HS := Lib.hid hs; clear hs))
      go_ret
      exact ⟨ret_bool (by rw [HV.out]; rfl), HS.out⟩
  · have e := nil_of_size h0
    have e2 : s.toList = [] := by rw [ByteArray.toList_eq]; exact e
    have HE := Lib.hid e
    clear e hcl
    go_enter Try.func55, Try.ntmps55
    go_wp2_with fail
    go_ret
    exact ⟨ret_bool (by rw [HE.out]; rfl), Below.refl _ _⟩
end Go.Proofs.Ytlalnmefppbebaa.Lx
/- What a token at a place is, class by class, as the program's token and the document's one say it. -/
namespace Go.Proofs.Ytlalnmefppbebaa.Lx
open Go.RowKit Go.Proofs.LexMath

theorem tl_wide : Wide tl := .inr fun r hr => by simp [tl, ltr, low, upp, dgt]; omega
theorem opr_wide : Wide opr := .inr fun r hr => by simp [opr]; omega
end Go.Proofs.Ytlalnmefppbebaa.Lx
/- The contract of Right: whether a token may be. -/
namespace Go
theorem step_call_fn_if {P : Program} {w : World} {ops : Array Oper} {o : Oper} {a : Act} {K : Act → World → Prop} {Q : Exit → Act → World → Prop} {E : Prop} (hw : Region.wanted o (yielded ops a.tmps) = true) (f : FuncId) (xs : Array Operand) (ats : Array TypeId)
    (ho : o.op = .call { callee := .value (.func f), args := xs, argTypes := ats }) (hf : ∀ vs w, (callFunc f vs).run P w = .ok (.enter f vs) w) (vs : Array Value) (hx : xs.map a.eval = vs)
    (h : Calls P f vs w fun e w' => ∃ v, e = .returned v ∧ K (a.put o.dst v) w') : if Region.wanted o (yielded ops a.tmps) = true then Oper.wp P o a w K Q else E := by
  rw [if_pos hw]
  subst hx
  unfold Oper.wp
  have e : execOp a.eval o = callFunc f (xs.map a.eval) := by
    obtain ⟨dst, op, ty, pos, after, guard⟩ := o
    simp only at ho
    subst ho
    simp [execOp, resolve, invoke, Act.eval, Deferred.ofValue]
  rw [e, hf, Oper.upon_enter]
  refine h.mono ?_
  rintro e w' ⟨v, rfl, hw⟩
  exact hw
end Go
namespace Go.Proofs.Ytlalnmefppbebaa.Lx
open Go.RowKit Go.Proofs.LexMath

def tokW (t : Tok) (w : World) : World := w.alloc (.cells #[.int .i64 t.kind, .string t.text, .int .i64 t.num, .int .i64 t.at_] 54)
/-- What may be beside the place and the number. -/
def kindB (k : Int) (s : ByteArray) (n : Int) : Bool :=
  if k = 1 then isw low tl s.data.toList && !key s.data.toList
  else if k = 2 then isw upp tl s.data.toList
  else if k = 3 then s.data.toList.isEmpty && decide (wr n = n)
  else if k = 4 then decide (s.size ≤ 200)
  else if k = 5 then isw opr opr s.data.toList && !key s.data.toList
  else if k = 6 then key s.data.toList
  else false
theorem right_kind (t : Tok) (h0 : 0 ≤ t.at_) (h1 : t.kind = 3 ∨ t.num = 0) : rightB t = kindB t.kind t.text t.num := by
  have e : decide (0 ≤ t.at_) = true := by simpa using h0
  have hl : t.bytes.length = t.text.size := rfl
  unfold rightB kindB
  rw [e, Bool.true_and, hl]
  unfold Tok.bytes
  by_cases h3 : t.kind = 3
  · simp [h3]
  · have hn : decide (t.num = 0) = true := by rcases h1 with h1 | h1; exact absurd h1 h3; simpa using h1
    simp [h3, hn]
theorem right_at (t : Tok) (h0 : ¬ 0 ≤ t.at_) : rightB t = false := by simp [rightB, h0]
theorem right_num (t : Tok) (h1 : ¬ (t.kind = 3 ∨ t.num = 0)) : rightB t = false := by
  have a : ¬ t.kind = 3 := fun h => h1 (.inl h)
  have b : ¬ t.num = 0 := fun h => h1 (.inr h)
  simp [rightB, a, b]
def RB (b : Bool) (W : World) (e : Ending) (w' : World) : Prop := e = .returned (.bool b) ∧ Below W.heap.size W w'
theorem tokW_facts {t : Tok} {w w' : World} (b : Below (tokW t w).heap.size (tokW t w) w') :
    w'.cell? ⟨w.heap.size, 0, none⟩ = some (.int .i64 t.kind) ∧ w'.cell? ⟨w.heap.size, 1, none⟩ = some (.string t.text) ∧ w'.cell? ⟨w.heap.size, 2, none⟩ = some (.int .i64 t.num) ∧ w'.cell? ⟨w.heap.size, 3, none⟩ = some (.int .i64 t.at_) :=
  (TokBlk.below (show TokBlk (tokW t w) w.heap.size t from heap_alloc_new w _) b (by simp [tokW])).facts.1
theorem tokW_below {t : Tok} {w w' : World} (b : Below (tokW t w).heap.size (tokW t w) w') : Below w.heap.size w w' := ((Below.refl _ _).alloc (Nat.le_refl _) _).trans (b.mono (by simp [tokW]))
theorem call31 (vs : Array Value) (w : World) : (callFunc 55 vs).run Try.prog w = .ok (.enter 55 vs) w := run_callFunc Try.func55 (by kernel_rfl) (by kernel_rfl) vs w
theorem call33 (vs : Array Value) (w : World) : (callFunc 57 vs).run Try.prog w = .ok (.enter 57 vs) w := run_callFunc Try.func57 (by kernel_rfl) (by kernel_rfl) vs w
theorem call34 (vs : Array Value) (w : World) : (callFunc 59 vs).run Try.prog w = .ok (.enter 59 vs) w := run_callFunc Try.func59 (by kernel_rfl) (by kernel_rfl) vs w
theorem call36 (vs : Array Value) (w : World) : (callFunc 61 vs).run Try.prog w = .ok (.enter 61 vs) w := run_callFunc Try.func61 (by kernel_rfl) (by kernel_rfl) vs w
theorem call24 (vs : Array Value) (w : World) : (callFunc 58 vs).run Try.prog w = .ok (.enter 58 vs) w := run_callFunc Try.func58 (by kernel_rfl) (by kernel_rfl) vs w
set_option maxRecDepth 100000 in
set_option maxHeartbeats 1000000 in
theorem right_1 (s : ByteArray) (a : Int) (w : World) (hs : s.size ≤ 100000000) (ha : 0 ≤ a) (x y : Bool) (hx : Hid (isw low tl s.data.toList = x)) (hy : Hid (key s.data.toList = y)) :
    Calls Try.prog 36 #[tokV ⟨1, s, 0, a⟩] w (RB (x && !y) w) := by
  unfold tokV
  have ha0 : decide (a < 0) = false := by simpa using ha
  have K := fun W => key_any s W
  rw [hy.out] at K
  have KK := Lib.hid K
  clear K
  cases x <;> cases y
  all_goals
    go_enter Try.func36, Try.ntmps36
    go_upto_region 5 with (fail)
    (first | go_region_law ((first
      | (refine step_call_fn (by rfl) 56 #[] #[] (by rfl) call32 #[] (by simp) ?_; refine (lowers_any _).mono ?_; rintro e w1 ⟨v1, rfl, c1, b1⟩; refine ⟨_, rfl, ?_⟩; obtain ⟨f1, caps1, rfl⟩ := c1.form; have HC1 := Lib.hid c1; have BB : Hid (Below (tokW ⟨1, s, 0, a⟩ w).heap.size (tokW ⟨1, s, 0, a⟩ w) w1) := Lib.hid (by first | exact b1 | exact (Below.refl _ _).drew.trans b1); have ⟨q1, q2, q3, q4⟩ := tokW_facts BB.out; clear c1 b1)
      | (refine step_call_fn (by rfl) 57 #[] #[] (by rfl) call33 #[] (by simp) ?_; refine (tails_any _).mono ?_; rintro e w2 ⟨v2, rfl, c2, b2⟩; refine ⟨_, rfl, ?_⟩; obtain ⟨f2, caps2, rfl⟩ := c2.form; have HC2 := Lib.hid c2; have BC := Lib.hid (by first | exact b2 | exact (Below.refl _ _).drew.trans b2); have HC1 := Lib.hid (HC1.out.below BC.out); have BB := Lib.hid (BB.out.trans (BC.out.mono BB.out.size)); have ⟨q1, q2, q3, q4⟩ := tokW_facts BB.out; clear c2 b2)
      | (refine step_call_fn (by rfl) 55 #[.tmp 21, .tmp 22, .tmp 23] #[9, 74, 74] (by rfl) call31 #[.string s, .func (.func f1) #[] caps1, .func (.func f2) #[] caps2] (by simp [go_sem]) ?_; refine (isWord_any s _ _ low tl _ (by omega) tl_wide HC1.out HC2.out).mono ?_; rw [hx.out]; rintro e w3 ⟨rfl, b3⟩; refine ⟨_, rfl, ?_⟩; have BB := Lib.hid (BB.out.trans (b3.mono BB.out.size)); have ⟨q1, q2, q3, q4⟩ := tokW_facts BB.out; clear b3)
      | (refine step_call_fn_if (by rfl) 58 #[.tmp 27] #[9] (by rfl) call24 #[.string s] (by simp [go_sem]) ?_; refine (KK.out _).mono ?_; rintro e w4 ⟨rfl, rfl⟩; refine ⟨_, rfl, ?_⟩)
      | fail)) | fail)
    all_goals
      go_wp2
      go_ret
      exact ⟨rfl, tokW_below BB.out⟩
set_option maxRecDepth 100000 in
set_option maxHeartbeats 1000000 in
theorem right_2 (s : ByteArray) (a : Int) (w : World) (hs : s.size ≤ 100000000) (ha : 0 ≤ a) (x : Bool) (hx : Hid (isw upp tl s.data.toList = x)) :
    Calls Try.prog 36 #[tokV ⟨2, s, 0, a⟩] w (RB x w) := by
  unfold tokV
  have ha0 : decide (a < 0) = false := by simpa using ha
  all_goals
    go_enter Try.func36, Try.ntmps36
    go_upto_region 7 with (fail)
    (first | go_region_law ((first
      | (refine step_call_fn (by rfl) 59 #[] #[] (by rfl) call34 #[] (by simp) ?_; refine (uppers_any _).mono ?_; rintro e w1 ⟨v1, rfl, c1, b1⟩; refine ⟨_, rfl, ?_⟩; obtain ⟨f1, caps1, rfl⟩ := c1.form; have HC1 := Lib.hid c1; have BB : Hid (Below (tokW ⟨2, s, 0, a⟩ w).heap.size (tokW ⟨2, s, 0, a⟩ w) w1) := Lib.hid (by first | exact b1 | exact (Below.refl _ _).drew.trans b1); have ⟨q1, q2, q3, q4⟩ := tokW_facts BB.out; clear c1 b1)
      | (refine step_call_fn (by rfl) 57 #[] #[] (by rfl) call33 #[] (by simp) ?_; refine (tails_any _).mono ?_; rintro e w2 ⟨v2, rfl, c2, b2⟩; refine ⟨_, rfl, ?_⟩; obtain ⟨f2, caps2, rfl⟩ := c2.form; have HC2 := Lib.hid c2; have BC := Lib.hid (by first | exact b2 | exact (Below.refl _ _).drew.trans b2); have HC1 := Lib.hid (HC1.out.below BC.out); have BB := Lib.hid (BB.out.trans (BC.out.mono BB.out.size)); have ⟨q1, q2, q3, q4⟩ := tokW_facts BB.out; clear c2 b2)
      | (refine step_call_fn (by rfl) 55 #[.tmp 34, .tmp 35, .tmp 36] #[9, 74, 74] (by rfl) call31 #[.string s, .func (.func f1) #[] caps1, .func (.func f2) #[] caps2] (by simp [go_sem]) ?_; refine (isWord_any s _ _ upp tl _ (by omega) tl_wide HC1.out HC2.out).mono ?_; rw [hx.out]; rintro e w3 ⟨rfl, b3⟩; refine ⟨_, rfl, ?_⟩; have BB := Lib.hid (BB.out.trans (b3.mono BB.out.size)); have ⟨q1, q2, q3, q4⟩ := tokW_facts BB.out; clear b3)
      | fail)) | fail)
    all_goals
      go_wp2
      go_ret
      exact ⟨rfl, tokW_below BB.out⟩
set_option maxRecDepth 100000 in
set_option maxHeartbeats 1000000 in
theorem right_5 (s : ByteArray) (a : Int) (w : World) (hs : s.size ≤ 100000000) (ha : 0 ≤ a) (x y : Bool) (hx : Hid (isw opr opr s.data.toList = x)) (hy : Hid (key s.data.toList = y)) :
    Calls Try.prog 36 #[tokV ⟨5, s, 0, a⟩] w (RB (x && !y) w) := by
  unfold tokV
  have ha0 : decide (a < 0) = false := by simpa using ha
  have K := fun W => key_any s W
  rw [hy.out] at K
  have KK := Lib.hid K
  clear K
  cases x <;> cases y
  all_goals
    go_enter Try.func36, Try.ntmps36
    go_upto_region 13 with (fail)
    (first | go_region_law ((first
      | (refine step_call_fn (by rfl) 61 #[] #[] (by rfl) call36 #[] (by simp) ?_; refine (operators_any _).mono ?_; rintro e w2 ⟨v2, rfl, c2, b2⟩; refine ⟨_, rfl, ?_⟩; obtain ⟨f2, caps2, rfl⟩ := c2.form; have HC2 := Lib.hid c2; have BC := Lib.hid (by first | exact b2 | exact (Below.refl _ _).drew.trans b2); have HC1 := Lib.hid (HC1.out.below BC.out); have BB := Lib.hid (BB.out.trans (BC.out.mono BB.out.size)); have ⟨q1, q2, q3, q4⟩ := tokW_facts BB.out; clear c2 b2)
      | (refine step_call_fn (by rfl) 61 #[] #[] (by rfl) call36 #[] (by simp) ?_; refine (operators_any _).mono ?_; rintro e w1 ⟨v1, rfl, c1, b1⟩; refine ⟨_, rfl, ?_⟩; obtain ⟨f1, caps1, rfl⟩ := c1.form; have HC1 := Lib.hid c1; have BB : Hid (Below (tokW ⟨5, s, 0, a⟩ w).heap.size (tokW ⟨5, s, 0, a⟩ w) w1) := Lib.hid (by first | exact b1 | exact (Below.refl _ _).drew.trans b1); have ⟨q1, q2, q3, q4⟩ := tokW_facts BB.out; clear c1 b1)
      | (refine step_call_fn (by rfl) 55 #[.tmp 60, .tmp 61, .tmp 62] #[9, 74, 74] (by rfl) call31 #[.string s, .func (.func f1) #[] caps1, .func (.func f2) #[] caps2] (by simp [go_sem]) ?_; refine (isWord_any s _ _ opr opr _ (by omega) opr_wide HC1.out HC2.out).mono ?_; rw [hx.out]; rintro e w3 ⟨rfl, b3⟩; refine ⟨_, rfl, ?_⟩; have BB := Lib.hid (BB.out.trans (b3.mono BB.out.size)); have ⟨q1, q2, q3, q4⟩ := tokW_facts BB.out; clear b3)
      | (refine step_call_fn_if (by rfl) 58 #[.tmp 66] #[9] (by rfl) call24 #[.string s] (by simp [go_sem]) ?_; refine (KK.out _).mono ?_; rintro e w4 ⟨rfl, rfl⟩; refine ⟨_, rfl, ?_⟩)
      | fail)) | fail)
    all_goals
      go_wp2
      go_ret
      exact ⟨rfl, tokW_below BB.out⟩
end Go.Proofs.Ytlalnmefppbebaa.Lx
/- The contract of Right, all of it; and of Word. -/
namespace Go.Proofs.Ytlalnmefppbebaa.Lx
open Go.RowKit Go.Proofs.LexMath

theorem isEmpty_of {s : ByteArray} {b : Bool} (h : s.data.toList.isEmpty = b) : s.toList.isEmpty = b := by rw [ByteArray.toList_eq]; exact h
set_option maxRecDepth 100000 in
set_option maxHeartbeats 1000000 in
theorem right_3 (s : ByteArray) (n a : Int) (w : World) (ha : 0 ≤ a) (x : Bool) (hx : Hid (s.data.toList.isEmpty = x)) :
    Calls Try.prog 36 #[tokV ⟨3, s, n, a⟩] w (RB (x && decide (wr n = n)) w) := by
  unfold tokV
  have ha0 : decide (a < 0) = false := by simpa using ha
  have C := fun W => wrap_any n W
  have hw : (wr n == n) = decide (wr n = n) := by rw [Bool.eq_iff_iff]; simp
  generalize decide (wr n = n) = y at *
  generalize wr n = m at *
  have CC := Lib.hid C
  clear C
  cases x with
  | true =>
    have e : s.toList = [] := by rw [ByteArray.toList_eq]; exact List.isEmpty_iff.1 hx.out
    clear hx
    cases y
    all_goals
      go_enter Try.func36, Try.ntmps36
      go_upto_region 9 with (fail)
      go_quiet ((go_at_call 60; first | exact quiet_left (CC.out _) | exact quiet_same_left (CC.out _)))
    all_goals go_wp2
    all_goals go_ret
    all_goals exact ⟨rfl, below_drewN ((Below.refl _ _).alloc (Nat.le_refl _) _) _⟩
  | false =>
    have e : s.toList.isEmpty = false := isEmpty_of hx.out
    have e2 : ¬ s.toList = [] := by intro h; rw [h] at e; cases e
    clear hx
    go_enter Try.func36, Try.ntmps36
    go_upto_region 9 with (fail)
    go_quiet ((go_at_call 60; first | exact quiet_left (CC.out _) | exact quiet_same_left (CC.out _)))
    all_goals go_wp2
    all_goals go_ret
    all_goals exact ⟨rfl, below_drewN ((Below.refl _ _).alloc (Nat.le_refl _) _) _⟩
set_option maxRecDepth 100000 in
theorem right_4 (s : ByteArray) (a : Int) (w : World) (ha : 0 ≤ a) (hs : s.size ≤ 100000000) :
    Calls Try.prog 36 #[tokV ⟨4, s, 0, a⟩] w (RB (decide (s.size ≤ 200)) w) := by
  unfold tokV
  have ha0 : decide (a < 0) = false := by simpa using ha
  have hd : decide (s.size ≤ 200) = decide ((s.size : Int) ≤ 200) := by rw [Bool.eq_iff_iff]; simp only [decide_eq_true_eq]; omega
  rw [hd]
  clear hd
  go_enter Try.func36, Try.ntmps36
  go_wp2
  go_ret
  exact ⟨rfl, (Below.refl _ _).alloc (Nat.le_refl _) _⟩
set_option maxRecDepth 100000 in
theorem right_6 (s : ByteArray) (a : Int) (w : World) (ha : 0 ≤ a) :
    Calls Try.prog 36 #[tokV ⟨6, s, 0, a⟩] w (RB (key s.data.toList) w) := by
  unfold tokV
  have ha0 : decide (a < 0) = false := by simpa using ha
  have K := fun W => key_any s W
  generalize key s.data.toList = x at *
  have KK := Lib.hid K
  clear K
  go_enter Try.func36, Try.ntmps36
  go_wp2_with fail
  refine (KK.out _).mono ?_
  rintro e w1 ⟨rfl, rfl⟩
  go_wp2
  go_ret
  exact ⟨rfl, (Below.refl _ _).alloc (Nat.le_refl _) _⟩
set_option maxRecDepth 100000 in
theorem right_0 (k : Int) (s : ByteArray) (a : Int) (w : World) (ha : 0 ≤ a) (h1 : (k == 1) = false) (h2 : (k == 2) = false) (h3 : (k == 3) = false) (h4 : (k == 4) = false) (h5 : (k == 5) = false) (h6 : (k == 6) = false) :
    Calls Try.prog 36 #[tokV ⟨k, s, 0, a⟩] w (RB false w) := by
  unfold tokV
  have ha0 : decide (a < 0) = false := by simpa using ha
  have h3' : (k != 3) = true := by simpa using h3
  go_enter Try.func36, Try.ntmps36
  go_wp2
  go_ret
  exact ⟨rfl, (Below.refl _ _).alloc (Nat.le_refl _) _⟩
set_option maxRecDepth 100000 in
theorem right_bad (k : Int) (s : ByteArray) (n a : Int) (w : World) (h : a < 0 ∨ (0 ≤ a ∧ ¬ k = 3 ∧ ¬ n = 0)) :
    Calls Try.prog 36 #[tokV ⟨k, s, n, a⟩] w (RB false w) := by
  unfold tokV
  rcases h with h | ⟨h1, h2, h3⟩
  · have ha0 : decide (a < 0) = true := by simpa using h
    go_enter Try.func36, Try.ntmps36
    go_wp2
    go_ret
    exact ⟨rfl, (Below.refl _ _).alloc (Nat.le_refl _) _⟩
  · have ha0 : decide (a < 0) = false := by simpa using h1
    have h3' : (k != 3) = true := by simpa using h2
    have h4' : (n != 0) = true := by simpa using h3
    clear h2 h3
    go_enter Try.func36, Try.ntmps36
    go_wp2
    go_ret
    exact ⟨rfl, (Below.refl _ _).alloc (Nat.le_refl _) _⟩
theorem right_any (t : Tok) (w : World) (hs : t.text.size ≤ 100000000) : Calls Try.prog 36 #[tokV t] w (RB (rightB t) w) := by
  by_cases h0 : 0 ≤ t.at_
  · by_cases h1 : t.kind = 3 ∨ t.num = 0
    · rw [right_kind t h0 h1]
      obtain ⟨k, s, n, a⟩ := t
      simp only at h0 h1 hs ⊢
      by_cases g3 : k = 3
      · subst g3
        exact right_3 s n a w h0 _ (Lib.hid rfl)
      · obtain rfl : n = 0 := by omega
        by_cases g1 : k = 1
        · subst g1; exact right_1 s a w hs h0 _ _ (Lib.hid rfl) (Lib.hid rfl)
        · by_cases g2 : k = 2
          · subst g2; exact right_2 s a w hs h0 _ (Lib.hid rfl)
          · by_cases g4 : k = 4
            · subst g4; exact right_4 s a w h0 hs
            · by_cases g5 : k = 5
              · subst g5; exact right_5 s a w hs h0 _ _ (Lib.hid rfl) (Lib.hid rfl)
              · by_cases g6 : k = 6
                · subst g6; exact right_6 s a w h0
                · have e : kindB k s 0 = false := by simp [kindB, g1, g2, g3, g4, g5, g6]
                  rw [e]
                  exact right_0 k s a w h0 (by simpa using g1) (by simpa using g2) (by simpa using g3) (by simpa using g4) (by simpa using g5) (by simpa using g6)
    · rw [right_num t h1]
      exact right_bad t.kind t.text t.num t.at_ w (.inr ⟨h0, fun h => h1 (.inl h), fun h => h1 (.inr h)⟩)
  · rw [right_at t h0]
    exact right_bad t.kind t.text t.num t.at_ w (.inl (by omega))
end Go.Proofs.Ytlalnmefppbebaa.Lx
/- The contracts of the document's Same, and of the laws' own few, own, exact. -/
namespace Go.Proofs.Ytlalnmefppbebaa.Lx
open Go.RowKit Go.Proofs.LexMath

theorem CellsIn.at {w : World} {b off : Nat} {cs : List Value} (h : CellsIn w b off cs) : ∀ j u, cs[j]? = some u → w.cell? ((⟨b, off, none⟩ : Addr).add j) = some u := by
  intro j u hj
  rw [Go.WideShapes.add_plain]
  exact h j u hj
end Go.Proofs.Ytlalnmefppbebaa.Lx
/- The contracts of the document's own is, while, hex and named. -/
namespace Go.Proofs.Ytlalnmefppbebaa.Lx
open Go.RowKit Go.Proofs.LexMath

def kindN (c : Int) : Int := if opr c = true then 5 else if low c = true then 1 else if upp c = true then 2 else if dgt c = true then 3 else if c = 95 ∨ c = 39 then 4 else 0
abbrev oprB : ByteArray := ⟨#[33, 36, 37, 38, 42, 43, 45, 47, 58, 60, 61, 62, 63, 64, 94, 124]⟩
theorem any_at (s : ByteArray) (c : Int) (k : Nat) (hk : k < s.size) : (s.data.toList.take (k + 1)).any (fun x => iv x == c) = ((s.data.toList.take k).any (fun x => iv x == c) || (s[k].toNat : Int) == c) := by
  have hl : k < s.data.toList.length := hk
  rw [List.take_succ_eq_append_getElem hl, List.any_append]
  simp [iv]
  rfl
theorem any_of_take (l : Bs) (c : Int) (k : Nat) (h : (l.take k).any (fun x => iv x == c) = true) : l.any (fun x => iv x == c) = true := by
  rw [List.any_eq_true] at h ⊢
  obtain ⟨x, hx, hx'⟩ := h
  exact ⟨x, List.mem_of_mem_take hx, hx'⟩
theorem kind_op (c : Int) (h : oprB.data.toList.any (fun x => iv x == c) = true) : kindN c = 5 := by
  rw [show oprB.data.toList.any (fun x => iv x == c) = opr c from opr_any c] at h
  simp [kindN, h]
theorem kind_no (c : Int) (h : oprB.data.toList.any (fun x => iv x == c) = false) : kindN c = if low c = true then 1 else if upp c = true then 2 else if dgt c = true then 3 else if c = 95 ∨ c = 39 then 4 else 0 := by
  rw [show oprB.data.toList.any (fun x => iv x == c) = opr c from opr_any c] at h
  simp [kindN, h]
set_option maxRecDepth 100000 in
set_option maxHeartbeats 2000000 in
theorem is_any (c : Int) (w : World) : Calls Try.prog 62 #[.int .u8 c] w fun e w' => e = .returned (.int .i64 (kindN c)) ∧ w = w' := by
  have AT := Lib.hid (any_at oprB c)
  have YES := Lib.hid (kind_op c)
  have NO := Lib.hid (kind_no c)
  have TAKE := Lib.hid (any_of_take oprB.data.toList c)
  generalize kindN c = r at *
  go_enter Try.func62, Try.ntmps62
  go_wp2
  go_loop [4] (fun i => ∃ k : Nat, k ≤ 16 ∧ i = .int .i64 k ∧ (oprB.data.toList.take k).any (fun x => iv x == c) = false) (fun i => 16 - (intOf i).toNat)
  case atStart => exact ⟨0, by omega, rfl, rfl⟩
  case round =>
    obtain ⟨k, hk, rfl, hf⟩ := hrel
    have HF := Lib.hid hf
    clear hf
    by_cases hlt : k < 16
    · have e := AT.out k hlt
      rw [HF.out, Bool.false_or] at e
      cases hc : ((oprB[k]'hlt).toNat : Int) == c with
      | true =>
        rw [hc] at e
        have E := Lib.hid (YES.out (TAKE.out _ e))
        clear e
        go_wp2
        go_ret
        exact ⟨ret_int E.out.symm, rfl⟩
      | false =>
        rw [hc] at e
        have E := Lib.hid e
        clear e
        go_wp2
        go_round
        case rel => exact ⟨k + 1, by omega, by go_num, E.out⟩
        case measure => simp [intOf]; omega
    · obtain rfl : k = 16 := by omega
      have E := Lib.hid (NO.out HF.out)
      by_cases g1 : low c = true
      · simp [low] at g1
        have e : r = 1 := by rw [E.out]; simp [low, g1]
        have EE := Lib.hid e
        clear e
        obtain ⟨g1, g2⟩ := g1
        go_wp2
        go_ret
        exact ⟨ret_int EE.out.symm, rfl⟩
      · by_cases g2 : upp c = true
        · have e : r = 2 := by rw [E.out]; simp [g1, g2]
          have EE := Lib.hid e
          clear e
          simp [upp] at g2
          obtain ⟨g2, g3⟩ := g2
          have d1 : ¬ 97 ≤ c := by omega
          clear g1
          go_wp2
          go_ret
          exact ⟨ret_int EE.out.symm, rfl⟩
        · by_cases g3 : dgt c = true
          · have e : r = 3 := by rw [E.out]; simp [g1, g2, g3]
            have EE := Lib.hid e
            clear e
            simp [dgt] at g3
            obtain ⟨g3, g4⟩ := g3
            have d1 : ¬ 97 ≤ c := by omega
            have d2 : ¬ 65 ≤ c := by omega
            clear g1 g2
            go_wp2
            go_ret
            exact ⟨ret_int EE.out.symm, rfl⟩
          · have e : r = if c = 95 ∨ c = 39 then 4 else 0 := by rw [E.out]; simp [g1, g2, g3]
            have EE := Lib.hid e
            simp [low] at g1
            simp [upp] at g2
            simp [dgt] at g3
            have G := Lib.hid (And.intro g1 (And.intro g2 g3))
            clear e g1 g2 g3
            go_wp2
            all_goals go_ret
            all_goals
              have G1 := G.out
              refine ⟨ret_int ?_, rfl⟩
              rw [EE.out]
              simp_all
            all_goals omega
def kp (lo hi : Int) (r : Int) : Bool := decide (lo ≤ kindN r) && decide (kindN r ≤ hi)
theorem run_at (p : Int → Bool) (s : ByteArray) (k : Nat) (hk : k < s.size) :
    (p (s[k].toNat : Int) = true → k + run p (s.data.toList.drop k) = k + 1 + run p (s.data.toList.drop (k + 1))) ∧ (p (s[k].toNat : Int) = false → run p (s.data.toList.drop k) = 0) := by
  rw [drop_at s k hk]
  refine ⟨fun h => ?_, fun h => ?_⟩
  · rw [run_yes p _ _ h]; omega
  · exact run_no p _ _ h
theorem run_end (p : Int → Bool) (s : ByteArray) (k : Nat) (hk : ¬ k < s.size) : run p (s.data.toList.drop k) = 0 := by
  rw [List.drop_eq_nil_of_le (by show s.data.size ≤ _; have : s.size = s.data.size := rfl; omega)]; rfl
set_option maxHeartbeats 1000000 in
theorem while_any (s : ByteArray) (at_ : Nat) (lo hi : Int) (w : World) (hat : at_ ≤ s.size) (hs : s.size ≤ 100000000) :
    Calls Try.prog 63 #[.string s, .int .i64 at_, .int .i64 lo, .int .i64 hi] w fun e w' => e = .returned (.int .i64 ((at_ + run (kp lo hi) (s.data.toList.drop at_) : Nat) : Int)) ∧ w = w' := by
  have AT := Lib.hid (run_at (kp lo hi) s)
  have END := Lib.hid (run_end (kp lo hi) s)
  obtain ⟨n, hn⟩ : ∃ n, at_ + run (kp lo hi) (s.data.toList.drop at_) = n := ⟨_, rfl⟩
  rw [hn]
  have HN := Lib.hid hn
  clear hn
  go_enter Try.func63, Try.ntmps63
  go_wp2
  go_loop [1] (fun i => ∃ k : Nat, k ≤ s.size ∧ i = .int .i64 k ∧ k + run (kp lo hi) (s.data.toList.drop k) = n) (fun i => s.size - (intOf i).toNat)
  case atStart => exact ⟨at_, hat, rfl, HN.out⟩
  case round =>
    obtain ⟨k, hk, rfl, hr⟩ := hrel
    have HR := Lib.hid hr
    clear hr
    by_cases hlt : k < s.size
    · obtain ⟨h1, h2⟩ := AT.out k hlt
      have IS := fun W => is_any (s[k].toNat : Int) W
      unfold kp at h1 h2
      generalize kindN (s[k].toNat : Int) = K at *
      have II := Lib.hid IS
      clear IS
      by_cases g1 : lo ≤ K
      · have d1 : decide (lo ≤ K) = true := by simpa using g1
        by_cases g2 : K ≤ hi
        · have d2 : decide (K ≤ hi) = true := by simpa using g2
          have E := Lib.hid (h1 (by rw [d1, d2]; rfl))
          clear h1 h2
          go_wp2_with fail
          refine (II.out _).mono ?_
          rintro e w1 ⟨rfl, rfl⟩
          go_wp2_with fail
          refine (II.out _).mono ?_
          rintro e w1 ⟨rfl, rfl⟩
          go_wp2
          go_round
          case rel => exact ⟨k + 1, by omega, by go_num, by rw [← HR.out]; exact E.out.symm⟩
          case measure => simp [intOf]; omega
        · have d2 : decide (K ≤ hi) = false := by simpa using g2
          have E := Lib.hid (h2 (by rw [d1, d2]; rfl))
          clear h1 h2
          go_wp2_with fail
          refine (II.out _).mono ?_
          rintro e w1 ⟨rfl, rfl⟩
          go_wp2_with fail
          refine (II.out _).mono ?_
          rintro e w1 ⟨rfl, rfl⟩
          go_wp2
          go_ret
          exact ⟨ret_int (by rw [← HR.out, show run (kp lo hi) (s.data.toList.drop k) = 0 from E.out]; rfl), rfl⟩
      · have d1 : decide (lo ≤ K) = false := by simpa using g1
        have E := Lib.hid (h2 (by rw [d1]; rfl))
        clear h1 h2
        go_wp2_with fail
        refine (II.out _).mono ?_
        rintro e w1 ⟨rfl, rfl⟩
        go_wp2
        go_ret
        exact ⟨ret_int (by rw [← HR.out, show run (kp lo hi) (s.data.toList.drop k) = 0 from E.out]; rfl), rfl⟩
    · have E := Lib.hid (END.out k hlt)
      go_wp2
      go_ret
      exact ⟨ret_int (by rw [← HR.out, E.out]; rfl), rfl⟩
theorem kp_tl : kp 1 4 = tl := by
  funext r
  rw [Bool.eq_iff_iff]
  simp only [kp, kindN, opr, tl, ltr, low, upp, dgt, Bool.and_eq_true, Bool.or_eq_true, decide_eq_true_eq, beq_iff_eq]
  constructor
  · rintro ⟨h1, h2⟩
    repeat' split at h1
    all_goals (repeat' split at h2)
    all_goals omega
  · intro h
    constructor <;> (repeat' split) <;> omega
theorem kp_opr : kp 5 5 = opr := by
  funext r
  rw [Bool.eq_iff_iff]
  simp only [kp, kindN, opr, low, upp, dgt, Bool.and_eq_true, Bool.or_eq_true, decide_eq_true_eq, beq_iff_eq]
  constructor
  · rintro ⟨h1, h2⟩
    repeat' split at h1
    all_goals (repeat' split at h2)
    all_goals omega
  · intro h
    constructor <;> (repeat' split) <;> omega
end Go.Proofs.Ytlalnmefppbebaa.Lx
/- The contract of the document's own one: the token at a place. -/
namespace Go.Proofs.Ytlalnmefppbebaa.Lx
open Go.RowKit Go.Proofs.LexMath

theorem kind_low {c : Int} (h : low c = true) : kindN c = 1 := by
  have : opr c = false := by
    rw [Bool.eq_false_iff]; intro g
    simp [low] at h; simp [opr] at g; omega
  simp [kindN, this, h]
theorem kind_upp {c : Int} (h : upp c = true) : kindN c = 2 := by
  have h1 : opr c = false := by
    rw [Bool.eq_false_iff]; intro g
    simp [upp] at h; simp [opr] at g; omega
  have h2 : low c = false := by
    rw [Bool.eq_false_iff]; intro g
    simp [upp] at h; simp [low] at g; omega
  simp [kindN, h1, h2, h]
end Go.Proofs.Ytlalnmefppbebaa.Lx
/- The contract of the document's own Right: whether a token may be. -/
namespace Go.Proofs.Ytlalnmefppbebaa.Lx
open Go.RowKit Go.Proofs.LexMath

theorem while_0 (s : ByteArray) (lo hi : Int) (w : World) (hs : s.size ≤ 100000000) :
    Calls Try.prog 63 #[.string s, .int .i64 0, .int .i64 lo, .int .i64 hi] w fun e w' => e = .returned (.int .i64 ((run (kp lo hi) s.data.toList : Nat) : Int)) ∧ w = w' := by
  have h := while_any s 0 lo hi w (Nat.zero_le _) hs
  rw [Nat.zero_add, List.drop_zero] at h
  exact h
theorem isw_run (p q : Int → Bool) (s : ByteArray) (h : 0 < s.size) (hpq : ∀ r, p r = true → q r = true) : isw p q s.data.toList = (p (s[0].toNat : Int) && (((run q s.data.toList : Nat) : Int) == (s.size : Int))) := by
  rw [isw_at p q s h]
  cases hp : p (s[0].toNat : Nat) with
  | false => rfl
  | true =>
    have e := (run_at q s 0 h).1 (hpq _ hp)
    rw [List.drop_zero, Nat.zero_add, Nat.zero_add] at e
    rw [e, Bool.true_and, Bool.true_and, Bool.eq_iff_iff, decide_eq_true_eq, beq_iff_eq]
theorem kind_1 (c : Int) : (kindN c == 1) = low c := by
  rw [Bool.eq_iff_iff, beq_iff_eq]
  constructor
  · intro h
    unfold kindN at h
    split at h
    · omega
    · split at h
      · assumption
      · split at h
        · omega
        · split at h
          · omega
          · split at h <;> omega
  · exact kind_low
theorem kind_2 (c : Int) : (kindN c == 2) = upp c := by
  rw [Bool.eq_iff_iff, beq_iff_eq]
  constructor
  · intro h
    unfold kindN at h
    split at h
    · omega
    · split at h
      · omega
      · split at h
        · assumption
        · split at h
          · omega
          · split at h <;> omega
  · exact kind_upp
theorem upp_tl {r : Int} (h : upp r = true) : tl r = true := by simp [tl, ltr, h]
theorem key_upp (l : Bs) (h : isw upp tl l = true) : key l = false := by
  obtain ⟨c, r, rfl, hc, _⟩ := isw_cons h
  rw [Bool.eq_false_iff]
  intro hk
  obtain ⟨c', r', e, hh⟩ := key_heads _ hk
  have hu : (65 : Int) ≤ iv c ∧ iv c ≤ 90 := by simpa [upp] using hc
  injection e with e1 e2
  subst e1 e2
  have k40 : iv 40 = 40 := rfl
  have k41 : iv 41 = 41 := rfl
  have k95 : iv 95 = 95 := rfl
  have k59 : iv 59 = 59 := rfl
  rcases hh with ⟨h1, _⟩ | ⟨h1, _⟩ | h1
  · simp [low] at h1; omega
  · simp [opr] at h1; omega
  · rcases h1 with h1 | h1 | h1 | h1 <;> (injection h1 with h1 _; rw [h1] at hu; omega)
theorem isw_1 (s : ByteArray) (h : 0 < s.size) : (isw low tl s.data.toList && !key s.data.toList) = ((kindN (s[0].toNat : Int) == 1) && (((run tl s.data.toList : Nat) : Int) == (s.size : Int)) && !key s.data.toList) := by
  rw [isw_run low tl s h (fun _ => low_tl), kind_1]
theorem isw_2 (s : ByteArray) (h : 0 < s.size) : isw upp tl s.data.toList = ((kindN (s[0].toNat : Int) == 2) && (((run tl s.data.toList : Nat) : Int) == (s.size : Int)) && !key s.data.toList) := by
  have e := key_upp s.data.toList
  rw [isw_run upp tl s h (fun _ => upp_tl), kind_2] at *
  cases hx : (upp (s[0].toNat : Int) && (((run tl s.data.toList : Nat) : Int) == (s.size : Int))) with
  | false => rfl
  | true => rw [e hx]; rfl
theorem isw_5 (s : ByteArray) (h : 0 < s.size) : isw opr opr s.data.toList = (((run opr s.data.toList : Nat) : Int) == (s.size : Int)) := by
  rw [isw_run opr opr s h (fun _ h => h)]
  cases hp : opr (s[0].toNat : Int) with
  | true => rfl
  | false =>
    rw [Bool.false_and, eq_comm, Bool.eq_false_iff]
    intro e
    rw [beq_iff_eq] at e
    have := (run_at opr s 0 h).2 hp
    rw [List.drop_zero] at this
    omega
theorem empty_of {s : ByteArray} (h : 0 < s.size) : s.toList.isEmpty = false := by
  rw [ByteArray.toList_eq]
  cases hx : s.data.toList with
  | nil => have : s.data.toList.length = s.size := rfl; rw [hx] at this; simp at this; omega
  | cons => rfl
theorem emp_of {s : ByteArray} (h : 0 < s.size) : (!s.toList.isEmpty) = true ∧ ¬ s.toList = [] := by
  have em := empty_of h
  exact ⟨by rw [em]; rfl, fun h => by rw [h] at em; cases em⟩
theorem below_drew (w : World) : Below w.heap.size w w.drew := (Below.refl _ _).drew
theorem below_next {W w w' : World} (h : Below W.heap.size W w) (h' : Below w.heap.size w w') : Below W.heap.size W w' := h.trans (h'.mono h.size)
theorem rr_s (t : Tok) (w w' : World) (b : Below (tokW t w).heap.size (tokW t w) w') : Below (tokW t w).heap.size (tokW t w) w' ∧ w'.cell? ⟨w.heap.size, 2, none⟩ = some (.int .i64 t.num) ∧ w'.cell? ⟨w.heap.size, 0, none⟩ = some (.int .i64 t.kind) :=
  have ⟨q1, _, q3, _⟩ := tokW_facts b
  ⟨b, q3, q1⟩
set_option maxRecDepth 100000 in
set_option maxHeartbeats 4000000 in
theorem rright_1 (s : ByteArray) (a : Int) (w : World) (hs : s.size ≤ 100000000) (ha : 0 ≤ a) (h0 : 0 < s.size) (x1 x2 y : Bool) (h1 : Hid ((kindN (s[0].toNat : Int) == 1) = x1)) (h2 : Hid ((((run tl s.data.toList : Nat) : Int) == (s.size : Int)) = x2)) (hy : Hid (key s.data.toList = y)) :
    Calls Try.prog 37 #[tokV ⟨1, s, 0, a⟩] w (RB (x1 && x2 && !y) w) := by
  have T := Lib.hid (rr_s ⟨1, s, 0, a⟩ w)
  unfold tokV
  have ha0 : decide (a < 0) = false := by simpa using ha
  obtain ⟨em2, em3⟩ := emp_of h0
  have K := fun W => rkey_any s W
  rw [hy.out] at K
  have KEYH := Lib.hid K
  have I := fun W => is_any (s[0].toNat : Int) W
  have S := fun W => while_0 s 1 4 W hs
  rw [kp_tl] at S
  have h1 := h1.out
  have h2 := h2.out
  generalize kindN (s[0].toNat : Int) = z at *
  generalize run tl s.data.toList = m at *
  have II := Lib.hid I
  have SS := Lib.hid S
  clear K I S hy
  cases x1 with
  | false =>
    simp only [Bool.false_and]
    go_enter Try.func37, Try.ntmps37
    go_upto_region 7 with (fail)
    go_quiet ((first | (go_at_call 62; first | exact quiet_left (II.out _) | exact quiet_same_left (II.out _)) | (go_at_call 63; first | exact quiet_left (SS.out _) | exact quiet_same_left (SS.out _))))
    all_goals go_wp2
    all_goals go_ret
    all_goals exact ⟨rfl, below_drewN ((Below.refl _ _).alloc (Nat.le_refl _) _) _⟩
  | true =>
    cases x2 with
    | false =>
      simp only [Bool.true_and, Bool.false_and]
      go_enter Try.func37, Try.ntmps37
      go_upto_region 7 with (fail)
      go_quiet ((first | (go_at_call 62; first | exact quiet_left (II.out _) | exact quiet_same_left (II.out _)) | (go_at_call 63; first | exact quiet_left (SS.out _) | exact quiet_same_left (SS.out _))))
      all_goals go_wp2
      all_goals go_ret
      all_goals exact ⟨rfl, below_drewN ((Below.refl _ _).alloc (Nat.le_refl _) _) _⟩
    | true =>
      simp only [Bool.true_and]
      cases y
      all_goals
        go_enter Try.func37, Try.ntmps37
        go_upto_region 7 with (fail)
        (first | go_region_held3 (fun w' => Below (tokW ⟨1, s, 0, a⟩ w).heap.size (tokW ⟨1, s, 0, a⟩ w) w' ∧ w'.cell? ⟨w.heap.size, 2, none⟩ = some (.int .i64 0) ∧ w'.cell? ⟨w.heap.size, 0, none⟩ = some (.int .i64 1)) (first | exact T.out _ (below_drew _) | exact T.out _ (by assumption)) ((first
          | (go_at_call 62; (with_reducible refine (II.out _).mono ?_); rintro e wz ⟨rfl, rfl⟩)
          | (go_at_call 63; (with_reducible refine (SS.out _).mono ?_); rintro e wz ⟨rfl, rfl⟩)
          | (go_at_call 64; (with_reducible refine (KEYH.out _).mono ?_); rintro e wz ⟨rfl, bz⟩; have bz' := below_next (W := tokW ⟨1, s, 0, a⟩ w) (below_drew _) bz)
          | fail)) | fail)
      all_goals go_wp2
      all_goals go_ret
      all_goals exact ⟨rfl, tokW_below (t := ⟨1, s, 0, a⟩) (by assumption)⟩
set_option maxRecDepth 100000 in
set_option maxHeartbeats 4000000 in
theorem rright_2 (s : ByteArray) (a : Int) (w : World) (hs : s.size ≤ 100000000) (ha : 0 ≤ a) (h0 : 0 < s.size) (x1 x2 y : Bool) (h1 : Hid ((kindN (s[0].toNat : Int) == 2) = x1)) (h2 : Hid ((((run tl s.data.toList : Nat) : Int) == (s.size : Int)) = x2)) (hy : Hid (key s.data.toList = y)) :
    Calls Try.prog 37 #[tokV ⟨2, s, 0, a⟩] w (RB (x1 && x2 && !y) w) := by
  have T := Lib.hid (rr_s ⟨2, s, 0, a⟩ w)
  unfold tokV
  have ha0 : decide (a < 0) = false := by simpa using ha
  obtain ⟨em2, em3⟩ := emp_of h0
  have K := fun W => rkey_any s W
  rw [hy.out] at K
  have KEYH := Lib.hid K
  have I := fun W => is_any (s[0].toNat : Int) W
  have S := fun W => while_0 s 1 4 W hs
  rw [kp_tl] at S
  have h1 := h1.out
  have h2 := h2.out
  generalize kindN (s[0].toNat : Int) = z at *
  generalize run tl s.data.toList = m at *
  have II := Lib.hid I
  have SS := Lib.hid S
  clear K I S hy
  cases x1 with
  | false =>
    simp only [Bool.false_and]
    go_enter Try.func37, Try.ntmps37
    go_upto_region 7 with (fail)
    go_quiet ((first | (go_at_call 62; first | exact quiet_left (II.out _) | exact quiet_same_left (II.out _)) | (go_at_call 63; first | exact quiet_left (SS.out _) | exact quiet_same_left (SS.out _))))
    all_goals go_wp2
    all_goals go_ret
    all_goals exact ⟨rfl, below_drewN ((Below.refl _ _).alloc (Nat.le_refl _) _) _⟩
  | true =>
    cases x2 with
    | false =>
      simp only [Bool.true_and, Bool.false_and]
      go_enter Try.func37, Try.ntmps37
      go_upto_region 7 with (fail)
      go_quiet ((first | (go_at_call 62; first | exact quiet_left (II.out _) | exact quiet_same_left (II.out _)) | (go_at_call 63; first | exact quiet_left (SS.out _) | exact quiet_same_left (SS.out _))))
      all_goals go_wp2
      all_goals go_ret
      all_goals exact ⟨rfl, below_drewN ((Below.refl _ _).alloc (Nat.le_refl _) _) _⟩
    | true =>
      simp only [Bool.true_and]
      cases y
      all_goals
        go_enter Try.func37, Try.ntmps37
        go_upto_region 7 with (fail)
        (first | go_region_held3 (fun w' => Below (tokW ⟨2, s, 0, a⟩ w).heap.size (tokW ⟨2, s, 0, a⟩ w) w' ∧ w'.cell? ⟨w.heap.size, 2, none⟩ = some (.int .i64 0) ∧ w'.cell? ⟨w.heap.size, 0, none⟩ = some (.int .i64 2)) (first | exact T.out _ (below_drew _) | exact T.out _ (by assumption)) ((first
          | (go_at_call 62; (with_reducible refine (II.out _).mono ?_); rintro e wz ⟨rfl, rfl⟩)
          | (go_at_call 63; (with_reducible refine (SS.out _).mono ?_); rintro e wz ⟨rfl, rfl⟩)
          | (go_at_call 64; (with_reducible refine (KEYH.out _).mono ?_); rintro e wz ⟨rfl, bz⟩; have bz' := below_next (W := tokW ⟨2, s, 0, a⟩ w) (below_drew _) bz)
          | fail)) | fail)
      all_goals go_wp2
      all_goals go_ret
      all_goals exact ⟨rfl, tokW_below (t := ⟨2, s, 0, a⟩) (by assumption)⟩
set_option maxRecDepth 100000 in
set_option maxHeartbeats 4000000 in
theorem rzero_1 (s : ByteArray) (n a : Int) (w : World) (ha : 0 ≤ a) (h : ¬ n = 0 ∨ (n = 0 ∧ s.toList = [])) :
    Calls Try.prog 37 #[tokV ⟨1, s, n, a⟩] w (RB false w) := by
  unfold tokV
  have ha0 : decide (a < 0) = false := by simpa using ha
  rcases h with h | ⟨rfl, e⟩
  · have h0 : (n == 0) = false := by simpa using h
    clear h
    go_enter Try.func37, Try.ntmps37
    go_upto_region 7 with (fail)
    go_quiet (fail)
    all_goals go_wp2
    all_goals go_ret
    all_goals exact ⟨rfl, below_drewN ((Below.refl _ _).alloc (Nat.le_refl _) _) _⟩
  · go_enter Try.func37, Try.ntmps37
    go_upto_region 7 with (fail)
    go_quiet (fail)
    all_goals go_wp2
    all_goals go_ret
    all_goals exact ⟨rfl, below_drewN ((Below.refl _ _).alloc (Nat.le_refl _) _) _⟩
set_option maxRecDepth 100000 in
set_option maxHeartbeats 4000000 in
theorem rzero_2 (s : ByteArray) (n a : Int) (w : World) (ha : 0 ≤ a) (h : ¬ n = 0 ∨ (n = 0 ∧ s.toList = [])) :
    Calls Try.prog 37 #[tokV ⟨2, s, n, a⟩] w (RB false w) := by
  unfold tokV
  have ha0 : decide (a < 0) = false := by simpa using ha
  rcases h with h | ⟨rfl, e⟩
  · have h0 : (n == 0) = false := by simpa using h
    clear h
    go_enter Try.func37, Try.ntmps37
    go_upto_region 7 with (fail)
    go_quiet (fail)
    all_goals go_wp2
    all_goals go_ret
    all_goals exact ⟨rfl, below_drewN ((Below.refl _ _).alloc (Nat.le_refl _) _) _⟩
  · go_enter Try.func37, Try.ntmps37
    go_upto_region 7 with (fail)
    go_quiet (fail)
    all_goals go_wp2
    all_goals go_ret
    all_goals exact ⟨rfl, below_drewN ((Below.refl _ _).alloc (Nat.le_refl _) _) _⟩
set_option maxRecDepth 100000 in
set_option maxHeartbeats 4000000 in
theorem rright_3 (s : ByteArray) (n a : Int) (w : World) (ha : 0 ≤ a) (x : Bool) (hx : Hid (s.data.toList.isEmpty = x)) :
    Calls Try.prog 37 #[tokV ⟨3, s, n, a⟩] w (RB (x && decide (wr n = n)) w) := by
  unfold tokV
  have ha0 : decide (a < 0) = false := by simpa using ha
  have C := fun W => rwrap_any n W
  have hw : (wr n == n) = decide (wr n = n) := by rw [Bool.eq_iff_iff]; simp
  generalize decide (wr n = n) = y at *
  generalize wr n = m at *
  have CC := Lib.hid C
  clear C
  cases x with
  | true =>
    have e : s.toList = [] := by rw [ByteArray.toList_eq]; exact List.isEmpty_iff.1 hx.out
    clear hx
    cases y
    all_goals
      go_enter Try.func37, Try.ntmps37
      go_upto_region 9 with (fail)
      go_quiet ((go_at_call 65; first | exact quiet_left (CC.out _) | exact quiet_same_left (CC.out _)))
    all_goals go_wp2
    all_goals go_ret
    all_goals exact ⟨rfl, below_drewN ((Below.refl _ _).alloc (Nat.le_refl _) _) _⟩
  | false =>
    have e : s.toList.isEmpty = false := isEmpty_of hx.out
    have e2 : ¬ s.toList = [] := by intro h; rw [h] at e; cases e
    clear hx
    go_enter Try.func37, Try.ntmps37
    go_upto_region 9 with (fail)
    go_quiet ((go_at_call 65; first | exact quiet_left (CC.out _) | exact quiet_same_left (CC.out _)))
    all_goals go_wp2
    all_goals go_ret
    all_goals exact ⟨rfl, below_drewN ((Below.refl _ _).alloc (Nat.le_refl _) _) _⟩
set_option maxRecDepth 100000 in
theorem rright_4 (s : ByteArray) (a : Int) (w : World) (ha : 0 ≤ a) (hs : s.size ≤ 100000000) :
    Calls Try.prog 37 #[tokV ⟨4, s, 0, a⟩] w (RB (decide (s.size ≤ 200)) w) := by
  unfold tokV
  have ha0 : decide (a < 0) = false := by simpa using ha
  have hd : decide (s.size ≤ 200) = decide ((s.size : Int) ≤ 200) := by rw [Bool.eq_iff_iff]; simp only [decide_eq_true_eq]; omega
  rw [hd]
  clear hd
  go_enter Try.func37, Try.ntmps37
  go_wp2
  go_ret
  exact ⟨rfl, (Below.refl _ _).alloc (Nat.le_refl _) _⟩
set_option maxRecDepth 100000 in
theorem rright_6 (s : ByteArray) (a : Int) (w : World) (ha : 0 ≤ a) :
    Calls Try.prog 37 #[tokV ⟨6, s, 0, a⟩] w (RB (key s.data.toList) w) := by
  unfold tokV
  have ha0 : decide (a < 0) = false := by simpa using ha
  have K := fun W => rkey_any s W
  generalize key s.data.toList = x at *
  have KK := Lib.hid K
  clear K
  go_enter Try.func37, Try.ntmps37
  go_wp2_with fail
  refine (KK.out _).mono ?_
  rintro e w1 ⟨rfl, b1⟩
  go_wp2
  go_ret
  exact ⟨rfl, tokW_below (t := ⟨6, s, 0, a⟩) b1⟩
set_option maxRecDepth 100000 in
theorem rright_0 (k : Int) (s : ByteArray) (n a : Int) (w : World) (ha : 0 ≤ a) (h1 : (k == 1) = false) (h2 : (k == 2) = false) (h3 : (k == 3) = false) (h4 : (k == 4) = false) (h5 : (k == 5) = false) (h6 : (k == 6) = false) :
    Calls Try.prog 37 #[tokV ⟨k, s, n, a⟩] w (RB false w) := by
  unfold tokV
  have ha0 : decide (a < 0) = false := by simpa using ha
  go_enter Try.func37, Try.ntmps37
  go_wp2
  go_ret
  exact ⟨rfl, (Below.refl _ _).alloc (Nat.le_refl _) _⟩
set_option maxRecDepth 100000 in
theorem rright_at (k : Int) (s : ByteArray) (n a : Int) (w : World) (ha : a < 0) :
    Calls Try.prog 37 #[tokV ⟨k, s, n, a⟩] w (RB false w) := by
  unfold tokV
  have ha0 : decide (a < 0) = true := by simpa using ha
  go_enter Try.func37, Try.ntmps37
  go_wp2
  go_ret
  exact ⟨rfl, (Below.refl _ _).alloc (Nat.le_refl _) _⟩
set_option maxRecDepth 100000 in
theorem rnum_4 (s : ByteArray) (n a : Int) (w : World) (ha : 0 ≤ a) (hn : ¬ n = 0) :
    Calls Try.prog 37 #[tokV ⟨4, s, n, a⟩] w (RB false w) := by
  unfold tokV
  have ha0 : decide (a < 0) = false := by simpa using ha
  have h0 : (n == 0) = false := by simpa using hn
  clear hn
  go_enter Try.func37, Try.ntmps37
  go_wp2
  go_ret
  exact ⟨rfl, (Below.refl _ _).alloc (Nat.le_refl _) _⟩
set_option maxRecDepth 100000 in
theorem rnum_5 (s : ByteArray) (n a : Int) (w : World) (ha : 0 ≤ a) (hn : ¬ n = 0) :
    Calls Try.prog 37 #[tokV ⟨5, s, n, a⟩] w (RB false w) := by
  unfold tokV
  have ha0 : decide (a < 0) = false := by simpa using ha
  have h0 : (n == 0) = false := by simpa using hn
  clear hn
  go_enter Try.func37, Try.ntmps37
  go_wp2
  go_ret
  exact ⟨rfl, (Below.refl _ _).alloc (Nat.le_refl _) _⟩
set_option maxRecDepth 100000 in
theorem rnum_6 (s : ByteArray) (n a : Int) (w : World) (ha : 0 ≤ a) (hn : ¬ n = 0) :
    Calls Try.prog 37 #[tokV ⟨6, s, n, a⟩] w (RB false w) := by
  unfold tokV
  have ha0 : decide (a < 0) = false := by simpa using ha
  have h0 : (n == 0) = false := by simpa using hn
  clear hn
  go_enter Try.func37, Try.ntmps37
  go_wp2
  go_ret
  exact ⟨rfl, (Below.refl _ _).alloc (Nat.le_refl _) _⟩
set_option maxRecDepth 100000 in
set_option maxHeartbeats 1000000 in
theorem rzero_5 (s : ByteArray) (a : Int) (w : World) (ha : 0 ≤ a) (e : s.toList = []) :
    Calls Try.prog 37 #[tokV ⟨5, s, 0, a⟩] w (RB false w) := by
  unfold tokV
  have ha0 : decide (a < 0) = false := by simpa using ha
  go_enter Try.func37, Try.ntmps37
  go_wp2
  go_ret
  exact ⟨rfl, (Below.refl _ _).alloc (Nat.le_refl _) _⟩
set_option maxRecDepth 100000 in
set_option maxHeartbeats 1000000 in
theorem rright_5 (s : ByteArray) (a : Int) (w : World) (hs : s.size ≤ 100000000) (ha : 0 ≤ a) (h0 : 0 < s.size) (x2 y : Bool) (h2 : Hid ((((run opr s.data.toList : Nat) : Int) == (s.size : Int)) = x2)) (hy : Hid (key s.data.toList = y)) :
    Calls Try.prog 37 #[tokV ⟨5, s, 0, a⟩] w (RB (x2 && !y) w) := by
  unfold tokV
  have ha0 : decide (a < 0) = false := by simpa using ha
  obtain ⟨em2, em3⟩ := emp_of h0
  have K := fun W => rkey_any s W
  rw [hy.out] at K
  have KEYH := Lib.hid K
  have S := fun W => while_0 s 5 5 W hs
  rw [kp_opr] at S
  have h2 := h2.out
  generalize run opr s.data.toList = m at *
  have SS := Lib.hid S
  clear K S hy
  cases x2 with
  | false =>
    simp only [Bool.false_and]
    go_enter Try.func37, Try.ntmps37
    go_wp2_with fail
    refine (SS.out _).mono ?_
    rintro e w1 ⟨rfl, rfl⟩
    go_wp2
    go_ret
    exact ⟨rfl, (Below.refl _ _).alloc (Nat.le_refl _) _⟩
  | true =>
    simp only [Bool.true_and]
    cases y
    all_goals
      go_enter Try.func37, Try.ntmps37
      go_wp2_with fail
      refine (SS.out _).mono ?_
      rintro e w1 ⟨rfl, rfl⟩
      go_wp2_with fail
      refine (KEYH.out _).mono ?_
      rintro e w1 ⟨rfl, b1⟩
      go_wp2
      go_ret
      exact ⟨rfl, tokW_below (t := ⟨5, s, 0, a⟩) b1⟩
theorem nil_list {s : ByteArray} (h : ¬ 0 < s.size) : s.toList = [] := by rw [ByteArray.toList_eq]; exact nil_of_size h
theorem rright_any (t : Tok) (w : World) (hs : t.text.size ≤ 100000000) : Calls Try.prog 37 #[tokV t] w (RB (rightB t) w) := by
  by_cases h0 : 0 ≤ t.at_
  · by_cases h1 : t.kind = 3 ∨ t.num = 0
    · rw [right_kind t h0 h1]
      obtain ⟨k, s, n, a⟩ := t
      simp only at h0 h1 hs ⊢
      by_cases g3 : k = 3
      · subst g3
        exact rright_3 s n a w h0 _ (Lib.hid rfl)
      · obtain rfl : n = 0 := by omega
        by_cases hz : 0 < s.size
        · by_cases g1 : k = 1
          · subst g1
            rw [show kindB 1 s 0 = (isw low tl s.data.toList && !key s.data.toList) from rfl, isw_1 s hz]
            exact rright_1 s a w hs h0 hz _ _ _ (Lib.hid rfl) (Lib.hid rfl) (Lib.hid rfl)
          · by_cases g2 : k = 2
            · subst g2
              rw [show kindB 2 s 0 = isw upp tl s.data.toList from rfl, isw_2 s hz]
              exact rright_2 s a w hs h0 hz _ _ _ (Lib.hid rfl) (Lib.hid rfl) (Lib.hid rfl)
            · by_cases g4 : k = 4
              · subst g4; exact rright_4 s a w h0 hs
              · by_cases g5 : k = 5
                · subst g5
                  rw [show kindB 5 s 0 = (isw opr opr s.data.toList && !key s.data.toList) from rfl, isw_5 s hz]
                  exact rright_5 s a w hs h0 hz _ _ (Lib.hid rfl) (Lib.hid rfl)
                · by_cases g6 : k = 6
                  · subst g6; exact rright_6 s a w h0
                  · have e : kindB k s 0 = false := by simp [kindB, g1, g2, g3, g4, g5, g6]
                    rw [e]
                    exact rright_0 k s 0 a w h0 (by simpa using g1) (by simpa using g2) (by simpa using g3) (by simpa using g4) (by simpa using g5) (by simpa using g6)
        · have hn := nil_of_size hz
          have hl := nil_list hz
          by_cases g1 : k = 1
          · subst g1
            rw [show kindB 1 s 0 = (isw low tl s.data.toList && !key s.data.toList) from rfl, hn]
            exact rzero_1 s 0 a w h0 (.inr ⟨rfl, hl⟩)
          · by_cases g2 : k = 2
            · subst g2
              rw [show kindB 2 s 0 = isw upp tl s.data.toList from rfl, hn]
              exact rzero_2 s 0 a w h0 (.inr ⟨rfl, hl⟩)
            · by_cases g4 : k = 4
              · subst g4; exact rright_4 s a w h0 hs
              · by_cases g5 : k = 5
                · subst g5
                  rw [show kindB 5 s 0 = (isw opr opr s.data.toList && !key s.data.toList) from rfl, hn]
                  exact rzero_5 s a w h0 hl
                · by_cases g6 : k = 6
                  · subst g6; exact rright_6 s a w h0
                  · have e : kindB k s 0 = false := by simp [kindB, g1, g2, g3, g4, g5, g6]
                    rw [e]
                    exact rright_0 k s 0 a w h0 (by simpa using g1) (by simpa using g2) (by simpa using g3) (by simpa using g4) (by simpa using g5) (by simpa using g6)
    · rw [right_num t h1]
      obtain ⟨k, s, n, a⟩ := t
      simp only at h0 h1 hs ⊢
      have hn : ¬ n = 0 := fun h => h1 (.inr h)
      by_cases g1 : k = 1
      · subst g1; exact rzero_1 s n a w h0 (.inl hn)
      · by_cases g2 : k = 2
        · subst g2; exact rzero_2 s n a w h0 (.inl hn)
        · by_cases g4 : k = 4
          · subst g4; exact rnum_4 s n a w h0 hn
          · by_cases g5 : k = 5
            · subst g5; exact rnum_5 s n a w h0 hn
            · by_cases g6 : k = 6
              · subst g6; exact rnum_6 s n a w h0 hn
              · exact rright_0 k s n a w h0 (by simpa using g1) (by simpa using g2) (by simp; omega) (by simpa using g4) (by simpa using g5) (by simpa using g6)
  · rw [right_at t h0]
    exact rright_at t.kind t.text t.num t.at_ w (by omega)
end Go.Proofs.Ytlalnmefppbebaa.Lx
