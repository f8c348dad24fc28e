/- Texts of this seat, one behind the other: LxSpan, LxStep, LxChars, LxEscape, LxBytes, LxIsWord, LxTokMath. -/
import Derived.Test.YtncifeeinogcnaaGreatDoorKn05
import Derived.Lib.TrimUEq
import Derived.Test.YtncifeeinogcnaaGreatDoorKn04
import Derived.Deep.RegionLaw
import Derived.Deep.QuietTactic
import Derived.BigQuiet
import Derived.Maps.AppendAt
import Derived.Lib.AppendStr
/- The contract of span: how far the characters of a class go on from a place. -/
set_option maxRecDepth 100000
namespace Go.Proofs.YtncifeeinogcnaaGreatDoor.Lx
open Go.RowKit Go.Proofs.LexMath

/-- A class that takes all characters of several bytes for the same as one byte from 128 on. -/
def Wide (p : Int → Bool) : Prop := (∀ r, 128 ≤ r → p r = true) ∨ (∀ r, 128 ≤ r → p r = false)
theorem high_bytes (s : ByteArray) (pos : Nat) (h : pos < s.size) (ha : 128 ≤ (s[pos]'h).toNat) :
    pos + (Utf8.decode s pos).2 ≤ s.size ∧ ∀ j, j < (Utf8.decode s pos).2 → 128 ≤ (s.get! (pos + j)).toNat := by
  have hn : ¬ (s[pos]'h).toNat < 128 := by omega
  have h0 : 128 ≤ (s.get! (pos + 0)).toNat := by rw [get_at s pos h]; exact ha
  have one : ∀ j, j < 1 → 128 ≤ (s.get! (pos + j)).toNat := by intro j hj; (obtain rfl : j = 0 := (by omega)); exact h0
  simp only [Utf8.decode, get_at s pos h, hn, if_false]
  split
  · rename_i h2
    simp only [Bool.and_eq_true, decide_eq_true_eq, beq_iff_eq] at h2
    split
    · refine ⟨by simp; omega, fun j hj => ?_⟩
      simp only at hj
      have : j = 0 ∨ j = 1 := by omega
      rcases this with rfl | rfl
      · exact h0
      · omega
    · exact ⟨by simp; omega, one⟩
  · split
    · rename_i h2
      simp only [Bool.and_eq_true, decide_eq_true_eq, beq_iff_eq] at h2
      split
      · refine ⟨by simp; omega, fun j hj => ?_⟩
        simp only at hj
        have : j = 0 ∨ j = 1 ∨ j = 2 := by omega
        rcases this with rfl | rfl | rfl
        · exact h0
        · omega
        · omega
      · exact ⟨by simp; omega, one⟩
    · split
      · rename_i h2
        simp only [Bool.and_eq_true, decide_eq_true_eq, beq_iff_eq] at h2
        split
        · refine ⟨by simp; omega, fun j hj => ?_⟩
          simp only at hj
          have : j = 0 ∨ j = 1 ∨ j = 2 ∨ j = 3 := by omega
          rcases this with rfl | rfl | rfl | rfl
          · exact h0
          · omega
          · omega
          · omega
        · exact ⟨by simp; omega, one⟩
      · exact ⟨by simp; omega, one⟩
theorem run_drop (p : Int → Bool) (l : Bs) (k : Nat) (h : ∀ c ∈ l.take k, p (iv c) = true) (hk : k ≤ l.length) : run p l = k + run p (l.drop k) := by
  induction k generalizing l with
  | zero => simp
  | succ k ih =>
    cases l with
    | nil => simp at hk
    | cons c l =>
      rw [List.take_succ_cons] at h
      rw [run_yes p c l (h c (by simp)), ih l (fun d hd => h d (by simp [hd])) (by simpa using hk), List.drop_succ_cons]
      omega
theorem drop_at (s : ByteArray) (pos : Nat) (h : pos < s.size) : s.data.toList.drop pos = s[pos] :: s.data.toList.drop (pos + 1) := List.drop_eq_getElem_cons (show pos < s.data.toList.length from h)
theorem get_bang (s : ByteArray) (k : Nat) (h : k < s.size) : s.get! k = s[k] := by have := get_at s k h; simpa using this
/-- One character on. -/
theorem run_rune (p : Int → Bool) (hw : Wide p) (s : ByteArray) (pos : Nat) (h : pos < s.size) (hp : p ((Utf8.decode s pos).1 : Nat) = true) :
    pos + (Utf8.decode s pos).2 ≤ s.size ∧ run p (s.data.toList.drop pos) = (Utf8.decode s pos).2 + run p (s.data.toList.drop (pos + (Utf8.decode s pos).2)) := by
  by_cases ha : (s[pos]'h).toNat < 128
  · rw [decode_ascii s pos h ha] at hp ⊢
    refine ⟨h, ?_⟩
    rw [drop_at s pos h, run_yes p _ _ hp]
    exact Nat.add_comm _ _
  · have ha' : 128 ≤ (s[pos]'h).toNat := by omega
    have hi := decode_high s pos h ha'
    obtain ⟨h1, h2⟩ := high_bytes s pos h ha'
    generalize (Utf8.decode s pos).2 = k at *
    generalize (Utf8.decode s pos).1 = r at *
    refine ⟨h1, ?_⟩
    have hall : ∀ x : Int, 128 ≤ x → p x = true := by
      rcases hw with hw | hw
      · exact hw
      · rw [hw r (by omega)] at hp; cases hp
    rw [run_drop p (s.data.toList.drop pos) k ?_ (by rw [List.length_drop]; show k ≤ s.data.size - pos; have : s.size = s.data.size := rfl; omega), List.drop_drop]
    intro c hc
    obtain ⟨j, hj, e⟩ := List.getElem_of_mem hc
    rw [List.length_take] at hj
    rw [List.getElem_take, List.getElem_drop] at e
    have hj' : pos + j < s.size := by omega
    have := h2 j (by omega)
    rw [get_bang s _ hj'] at this
    have e' : s[pos + j] = c := e
    rw [e'] at this
    exact hall _ (by unfold iv; omega)
theorem run_stop_rune (p : Int → Bool) (hw : Wide p) (s : ByteArray) (pos : Nat) (h : pos < s.size) (hp : p ((Utf8.decode s pos).1 : Nat) = false) : run p (s.data.toList.drop pos) = 0 := by
  rw [drop_at s pos h]
  apply run_no
  by_cases ha : (s[pos]'h).toNat < 128
  · rw [decode_ascii s pos h ha] at hp
    exact hp
  · have ha' : 128 ≤ (s[pos]'h).toNat := by omega
    have hi := decode_high s pos h ha'
    rcases hw with hw | hw
    · rw [hw _ (by omega)] at hp; cases hp
    · exact hw _ (by unfold iv; omega)
theorem span_form (s : ByteArray) (at_ : Nat) :
    (s.extract at_ s.size).data.toList = s.data.toList.drop at_ ∧ (s.extract at_ s.size).size = s.size - at_ := by
  have h1 : (s.extract at_ s.size).data.toList = s.data.toList.drop at_ := by
    rw [Go.Lib.extract_data, List.take_of_length_le]
    rw [List.length_drop]
    show s.data.size - at_ ≤ _
    have : s.size = s.data.size := rfl
    omega
  refine ⟨h1, ?_⟩
  have e : (s.extract at_ s.size).size = (s.extract at_ s.size).data.toList.length := rfl
  rw [e, h1, List.length_drop]
  rfl
theorem iter_block (w : World) (s : ByteArray) (pos : Nat) : (w.iter s pos).heap[w.heap.size]? = some (.stringIter s pos) := by
  simp [World.iter_heap]
/-- How the walk over a string stands: its iterator lies in a block of its own. -/
def Goes (w : World) (d : ByteArray) (pos : Nat) (wr : World) : Prop := wr.heap[w.heap.size]? = some (.stringIter d pos) ∧ Below w.heap.size w wr
theorem Goes.size {w wr : World} {d : ByteArray} {pos : Nat} (h : Goes w d pos wr) : w.heap.size < wr.heap.size := (Array.getElem?_eq_some_iff.1 h.1).1
theorem Goes.on {w wr : World} {d : ByteArray} {pos : Nat} (h : Goes w d pos wr) (q : Nat) : Goes w d q (wr.iterAt w.heap.size d q) :=
  ⟨Go.Lib.iterAt_heap wr _ d pos q h.1, Go.Lib.below_iterAt h.2 (Nat.le_refl _) d q⟩
theorem Goes.below {w wr w1 : World} {d : ByteArray} {pos : Nat} (h : Goes w d pos wr) (b : Below wr.heap.size wr w1) : Goes w d pos w1 :=
  ⟨(b.block _ h.size).trans h.1, h.2.trans (b.mono h.2.size)⟩
theorem iterPos_of {w wr : World} {d : ByteArray} {pos : Nat} (h : Goes w d pos wr) : wr.iterPos w.heap.size = pos := by
  simp [World.iterPos, h.1]
/-- The contract of span. -/
theorem span_any (s : ByteArray) (at_ : Nat) (v : Value) (p : Int → Bool) (w : World) (hat : at_ ≤ s.size) (hs : s.size ≤ 1000000000) (hw : Wide p) (hv : Cls w v p) :
    Calls Tryz.prog 160 #[.string s, .int .i64 at_, v] w fun e w' => e = .returned (.int .i64 ((at_ + run p (s.data.toList.drop at_) : Nat) : Int)) ∧ Below w.heap.size w w' := by
  obtain ⟨f, caps, rfl, hf, hcl⟩ := hv
  have HW := Lib.hid hf
  have HC := Lib.hid hcl
  clear hf hcl
  obtain ⟨hx1, hx2⟩ := span_form s at_
  go_enter Tryz.func160, Tryz.ntmps160
  go_wp2
  generalize s.extract at_ s.size = d at *
  have HX := Lib.hid hx1
  have HY := Lib.hid hx2
  have hd1 : d.size ≤ s.size - at_ := by omega
  clear hx1 hx2
  have RUN := Lib.hid (fun pos (h : pos < d.size) => run_rune p hw d pos h)
  have STOP := Lib.hid (fun pos (h : pos < d.size) => run_stop_rune p hw d pos h)
  clear hw
  go_loopw [8] (fun _ wr => ∃ pos : Nat, pos ≤ d.size ∧ Goes w d pos wr ∧ run p (s.data.toList.drop at_) = pos + run p (d.data.toList.drop pos)) (fun _ wr => d.size - wr.iterPos w.heap.size)
  case atStart => exact ⟨0, Nat.zero_le _, ⟨iter_block _ _ _, below_iter _ _ _⟩, by rw [HX.out]; simp⟩
  case round =>
    obtain ⟨wo, hwo⟩ : ∃ wo : World, wo = wr := ⟨_, rfl⟩
    subst hwo
    obtain ⟨pos, hps, hG, hrun⟩ := hrel
    have HG := Lib.hid hG
    have HR := Lib.hid hrun
    clear hrun hG
    by_cases hp : pos < d.size
    · have hnx : ∀ ty, (Instr.next (.pointer (some ⟨w.heap.size, 0, none⟩)) true ty).run Tryz.prog wo = _ := fun ty => Go.Lib.run_next_any_at wo w.heap.size d pos ty HG.out.1 hp
      have h1 := RUN.out pos hp
      have h2 := STOP.out pos hp
      have hr := decode_le d pos
      have hwp := width_pos d pos hp
      have GO := Lib.hid (HG.out.on (pos + (Utf8.decode d pos).2))
      generalize hrr : (Utf8.decode d pos).1 = r at *
      generalize hww : (Utf8.decode d pos).2 = wd at *
      clear hrr hww
      cases hpr : p (r : Int) with
      | true =>
        have H1 := Lib.hid (h1 hpr)
        have HL := HC.out r _ GO.out.2
        rw [hpr] at HL
        have HL := Lib.hid HL
        clear h1 h2 hpr
        go_wp2_with ((refine wpList_call_slot (o := ⟨some 19, _, _, _, _, _⟩) rfl 17 _ _ rfl f caps rfl HW.out (#[.int .i32 r] ++ caps) (by simp [go_sem]) ?_; refine HL.out.mono ?_; rintro e w1 ⟨rfl, hs⟩; refine ⟨_, rfl, ?_⟩; simp only [Act.put, List.setIfInBounds_toArray, List.set_cons_succ, List.set_cons_zero]; have HS := Lib.hid hs; clear hs))
        have g1 := GO.out.below HS.out
        go_roundw
        case rel => exact ⟨pos + wd, H1.out.1, g1, by rw [HR.out, H1.out.2]; omega⟩
        case measure => rw [iterPos_of HG.out, iterPos_of g1]; omega
      | false =>
        have H2 := Lib.hid (h2 hpr)
        have HL := HC.out r _ GO.out.2
        rw [hpr] at HL
        have HL := Lib.hid HL
        clear h1 h2 hpr
        go_wp2_with ((refine wpList_call_slot (o := ⟨some 19, _, _, _, _, _⟩) rfl 17 _ _ rfl f caps rfl HW.out (#[.int .i32 r] ++ caps) (by simp [go_sem]) ?_; refine HL.out.mono ?_; rintro e w1 ⟨rfl, hs⟩; refine ⟨_, rfl, ?_⟩; simp only [Act.put, List.setIfInBounds_toArray, List.set_cons_succ, List.set_cons_zero]; have HS := Lib.hid hs; clear hs))
        go_ret
        refine ⟨ret_int ?_, (GO.out.below HS.out).2⟩
        rw [HR.out, H2.out]
        omega
    · have hnx : ∀ ty, (Instr.next (.pointer (some ⟨w.heap.size, 0, none⟩)) true ty).run Tryz.prog wo = _ := fun ty => Go.Lib.run_next_end_at wo w.heap.size d pos ty HG.out.1 hp
      go_wp2
      go_ret
      refine ⟨ret_int ?_, HG.out.2⟩
      have h3 : pos = d.size := by omega
      have h4 : run p (d.data.toList.drop pos) = 0 := by rw [List.drop_eq_nil_of_le (by rw [h3]; exact Nat.le_refl _), run_nil]
      rw [HR.out, h4]
      have := HY.out
      omega
end Go.Proofs.YtncifeeinogcnaaGreatDoor.Lx
/- Calls as steps of a region that draws its order, as laws for the walk. -/
namespace Go
section
variable {P : Program} {w : World} {ops : Array Oper} {o : Oper} {a : Act} {K : Act → World → Prop} {Q : Exit → Act → World → Prop} {E : Prop}
theorem step_call_fn (hgd : o.guard = none) (f : FuncId) (xs : Array Operand) (ats : Array TypeId)
    (ho : o.op = .call { callee := .value (.func f), args := xs, argTypes := ats }) (hf : ∀ vs w, (callFunc f vs).run P w = .ok (.enter f vs) w) (vs : Array Value) (hx : xs.map a.eval = vs)
    (h : Calls P f vs w fun e w' => ∃ v, e = .returned v ∧ K (a.put o.dst v) w') : if Region.wanted o (yielded ops a.tmps) = true then Oper.wp P o a w K Q else E := by
  have hw : Region.wanted o (yielded ops a.tmps) = true := by simp [Region.wanted, hgd]
  rw [if_pos hw]
  subst hx
  unfold Oper.wp
  have e : execOp a.eval o = callFunc f (xs.map a.eval) := by
    obtain ⟨dst, op, ty, pos, after, guard⟩ := o
    simp only at ho
    subst ho
    simp [execOp, resolve, invoke, Act.eval, Deferred.ofValue]
  rw [e, hf, Oper.upon_enter]
  refine h.mono ?_
  rintro e w' ⟨v, rfl, hw⟩
  exact hw
end
end Go
/- The contracts of the small functions: a word's token, a byte of a string. -/
set_option maxRecDepth 100000
namespace Go.Proofs.YtncifeeinogcnaaGreatDoor.Lx
open Go.RowKit Go.Proofs.LexMath

def tokV (t : Tok) : Value := .agg #[.int .i64 t.kind, .string t.text, .int .i64 t.num, .int .i64 t.at_]
theorem call32 (vs : Array Value) (w : World) : (callFunc 138 vs).run Tryz.prog w = .ok (.enter 138 vs) w := run_callFunc Tryz.func138 (by kernel_rfl) (by kernel_rfl) vs w
/-- A block that holds a token. -/
def TokBlk (w : World) (g : Nat) (t : Tok) : Prop := w.heap[g]? = some (.cells #[.int .i64 t.kind, .string t.text, .int .i64 t.num, .int .i64 t.at_] 76 (0, 0))
theorem TokBlk.below {w w' : World} {g B : Nat} {t : Tok} (h : TokBlk w g t) (b : Below B w w') (hg : g < B) : TokBlk w' g t := (b.block g hg).trans h
theorem TokBlk.facts {w : World} {g : Nat} {t : Tok} (h : TokBlk w g t) :
    (w.cell? ⟨g, 0, none⟩ = some (.int .i64 t.kind) ∧ w.cell? ⟨g, 1, none⟩ = some (.string t.text) ∧ w.cell? ⟨g, 2, none⟩ = some (.int .i64 t.num) ∧ w.cell? ⟨g, 3, none⟩ = some (.int .i64 t.at_)) ∧
    (w.frozen? ⟨g, 0, none⟩ = false ∧ w.frozen? ⟨g, 1, none⟩ = false ∧ w.frozen? ⟨g, 2, none⟩ = false ∧ w.frozen? ⟨g, 3, none⟩ = false) :=
  ⟨⟨cell_of_row w g 0 _ _ _ h, cell_of_row w g 1 _ _ _ h, cell_of_row w g 2 _ _ _ h, cell_of_row w g 3 _ _ _ h⟩, ⟨frozen_of_row w g 0 _ _ h, frozen_of_row w g 1 _ _ h, frozen_of_row w g 2 _ _ h, frozen_of_row w g 3 _ _ h⟩⟩
end Go.Proofs.YtncifeeinogcnaaGreatDoor.Lx
/- The contracts of escape and character: the byte for which the head of a text stands in a string. -/
namespace Go.Proofs.YtncifeeinogcnaaGreatDoor.Lx
open Go.RowKit Go.Proofs.LexMath

theorem quiet_left {P : Program} {f : FuncId} {args : Array Value} {w : World} {n : Nat} {v : Value}
    (h : Calls P f args (w.drewN n) fun e w' => e = .returned v ∧ w.drewN n = w') : Calls P f args (w.drewN n) fun e w'' => e = .returned v ∧ ∃ m, w'' = w.drewN m :=
  h.mono fun _ _ ⟨he, hm⟩ => ⟨he, n, hm.symm⟩
theorem quiet_same_left {P : Program} {f : FuncId} {args : Array Value} {w : World} {v : Value}
    (h : Calls P f args w fun e w' => e = .returned v ∧ w = w') : Calls P f args w fun e w'' => e = .returned v ∧ w'' = w :=
  h.mono fun _ _ ⟨he, hm⟩ => ⟨he, hm.symm⟩
theorem below_drewN {B : Nat} {a w : World} (h : Below B a w) (n : Nat) : Below B a (w.drewN n) := ⟨h.os, h.tape, h.output, h.size, h.block⟩
end Go.Proofs.YtncifeeinogcnaaGreatDoor.Lx
/- Rows of the call's own: bytes and tokens that are gathered, append to them, and the string that the bytes are. -/
namespace Go
open Go.RowKit
theorem World.ownsRow.after {w w' : World} {base size n : Nat} {e : TypeId} {v : Value} {xs : List Value} (h : w.ownsRow base e size v n xs) (b : Below w.heap.size w w') : w'.ownsRow base e size v n xs := by
  obtain ⟨hl, h⟩ := h
  refine ⟨hl, ?_⟩
  rcases h with h | ⟨g, cap, cur, hv, hb, hg, hr⟩
  · exact .inl h
  · exact .inr ⟨g, cap, cur, hv, hb, (b.block g (Array.getElem?_eq_some_iff.1 hg).1).trans hg, hr⟩
theorem World.ownsRow.form {w : World} {base size n : Nat} {e : TypeId} {v : Value} {xs : List Value} (h : w.ownsRow base e size v n xs) : ∃ p cap, v = .slice p n cap := by
  obtain ⟨_, ⟨rfl, rfl⟩ | ⟨g, cap, cur, hv, hr⟩⟩ := h
  · exact ⟨none, 0, rfl⟩
  · exact ⟨_, cap, hv⟩
end Go
namespace Go.Proofs.YtncifeeinogcnaaGreatDoor.Lx
open Go.RowKit Go.Proofs.LexMath

def byteVals (l : Bs) : List Value := l.map fun c => .int .u8 (iv c)
theorem byteVals_len (l : Bs) : (byteVals l).length = l.length := by simp [byteVals]
/-- Bytes in a row of the call's own. -/
def BRow (base : Nat) (w : World) (v : Value) (n : Nat) (l : Bs) : Prop := w.ownsRow base 5 1 v n (byteVals l)
theorem BRow.len {base n : Nat} {w : World} {v : Value} {l : Bs} (h : BRow base w v n l) : l.length = n := by
  have := h.1
  rw [byteVals_len] at this
  omega
theorem BRow.nil (base : Nat) (w : World) : BRow base w (.slice none 0 0) 0 [] := World.ownsRow_nil _ _ _ _
theorem BRow.after {base n : Nat} {w w' : World} {v : Value} {l : Bs} (h : BRow base w v n l) (b : Below w.heap.size w w') : BRow base w' v n l := World.ownsRow.after h b
/-- Tokens in a row of the call's own. -/
def TRow (base : Nat) (w : World) (v : Value) (n : Nat) (l : List Tok) : Prop := w.ownsRow base 76 4 v n (tokCells l)
theorem TRow.len {base n : Nat} {w : World} {v : Value} {l : List Tok} (h : TRow base w v n l) : l.length = n := by
  have := h.1
  rw [length_tokCells] at this
  omega
theorem TRow.nil (base : Nat) (w : World) : TRow base w (.slice none 0 0) 0 [] := World.ownsRow_nil _ _ _ _
theorem TRow.after {base n : Nat} {w w' : World} {v : Value} {l : List Tok} (h : TRow base w v n l) (b : Below w.heap.size w w') : TRow base w' v n l := World.ownsRow.after h b
theorem TRow.at {base n : Nat} {w : World} {v : Value} {l : List Tok} (h : TRow base w v n l) : ToksAt w v l := by
  have e := h.len
  subst e
  exact SliceAt.of_owns h
end Go.Proofs.YtncifeeinogcnaaGreatDoor.Lx
/- The contract of isWord. -/
set_option maxRecDepth 100000
namespace Go.Proofs.YtncifeeinogcnaaGreatDoor.Lx
open Go.RowKit Go.Proofs.LexMath

theorem run_len (q : Int → Bool) (r : Bs) : (run q r = r.length) ↔ (r.all fun d => q (iv d)) = true := by
  induction r with
  | nil => simp [run_nil]
  | cons c r ih =>
    by_cases h : q (iv c) = true
    · rw [run_yes q c r h]; simp [h, ih]
    · have h' : q (iv c) = false := by simpa using h
      rw [run_no q c r h']; simp [h']
theorem nil_of_size {s : ByteArray} (h : ¬ 0 < s.size) : s.data.toList = [] := by
  apply List.eq_nil_of_length_eq_zero
  show s.data.size = 0
  have : s.size = s.data.size := rfl
  omega
theorem isw_at (p q : Int → Bool) (s : ByteArray) (h : 0 < s.size) : isw p q s.data.toList = (p (s[0].toNat : Nat) && decide (((1 + run q (s.data.toList.drop 1) : Nat) : Int) = (s.size : Int))) := by
  have e := drop_at s 0 h
  rw [List.drop_zero] at e
  have hl : s.data.toList.length = s.size := rfl
  have e2 := run_len q (s.data.toList.drop 1)
  have hd : (s.data.toList.drop 1).length = s.size - 1 := by rw [List.length_drop, hl]
  rw [hd] at e2
  rw [e]
  rw [show (0 : Nat) + 1 = 1 from rfl]
  generalize s.data.toList.drop 1 = r at *
  simp only [isw, List.drop_succ_cons, List.drop_zero]
  have e3 : (r.all fun d => q (iv d)) = decide (((1 + run q r : Nat) : Int) = (s.size : Int)) := by
    rw [Bool.eq_iff_iff, ← e2, decide_eq_true_eq]
    omega
  rw [e3]
  rfl
theorem isWord_any (s : ByteArray) (v1 v2 : Value) (p q : Int → Bool) (w : World) (hs : s.size ≤ 1000000000) (hq : Wide q) (h1 : Cls w v1 p) (h2 : Cls w v2 q) :
    Calls Tryz.prog 137 #[.string s, v1, v2] w fun e w' => e = .returned (.bool (isw p q s.data.toList)) ∧ Below w.heap.size w w' := by
  have hc := h1
  obtain ⟨f, caps, rfl, hf, hcl⟩ := hc
  obtain ⟨f2, caps2, rfl⟩ := h2.form
  have HW := Lib.hid hf
  have HQ := Lib.hid hq
  clear hf h1 hq
  by_cases h0 : 0 < s.size
  · have HV := Lib.hid (isw_at p q s h0)
    have hb : (s[0].toNat : Int) ≤ 255 := by have := s[0].toNat_lt; omega
    have a1 : s.toList.isEmpty = false := by
      rw [ByteArray.toList_eq]
      cases hx : s.data.toList with
      | nil => have : s.data.toList.length = s.size := rfl; rw [hx] at this; simp at this; omega
      | cons => rfl
    cases hp : p (s[0].toNat : Nat) with
    | true =>
      have HL := hcl (s[0].toNat : Nat) w (Below.refl _ _)
      rw [hp] at HV HL
      have HL := Lib.hid HL
      clear hp hcl
      go_enter Tryz.func137, Tryz.ntmps137
      go_wp2_with ((refine wpList_call_slot_if (o := ⟨some 14, _, _, _, _, _⟩) (by rfl) 10 _ _ rfl f caps rfl HW.out (#[.int .i32 (s[0].toNat : Nat)] ++ caps) (by simp [go_sem]) ?_; refine HL.out.mono ?_; rintro e w1 ⟨rfl, hs⟩; refine ⟨_, rfl, ?_⟩; simp only [Act.put, List.setIfInBounds_toArray, List.set_cons_succ, List.set_cons_zero]; have HS := Lib.hid hs; clear hs))
      have S := span_any s 1 _ q w1 (by omega) (by omega) HQ.out (h2.below HS.out)
      generalize 1 + run q (s.data.toList.drop 1) = m at S HV
      refine S.mono ?_
      rintro e w2 ⟨rfl, b2⟩
      clear S
      go_wp2
      go_ret
      refine ⟨ret_bool ?_, HS.out.trans (b2.mono HS.out.size)⟩
      rw [HV.out]
      rfl
    | false => 
      have HL := hcl (s[0].toNat : Nat) w (Below.refl _ _)
      rw [hp] at HV HL
      have HL := Lib.hid HL
      clear hp hcl
      go_enter Tryz.func137, Tryz.ntmps137
      go_wp2_with ((refine wpList_call_slot_if (o := ⟨some 14, _, _, _, _, _⟩) (by rfl) 10 _ _ rfl f caps rfl HW.out (#[.int .i32 (s[0].toNat : Nat)] ++ caps) (by simp [go_sem]) ?_; refine HL.out.mono ?_; rintro e w1 ⟨rfl, hs⟩; refine ⟨_, rfl, ?_⟩; simp only [Act.put, List.setIfInBounds_toArray, List.set_cons_succ, List.set_cons_zero]; have HS := Lib.hid hs; clear hs))
      go_ret
      exact ⟨ret_bool (by rw [HV.out]; rfl), HS.out⟩
  · have e := nil_of_size h0
    have e2 : s.toList = [] := by rw [ByteArray.toList_eq]; exact e
    have HE := Lib.hid e
    clear e hcl
    go_enter Tryz.func137, Tryz.ntmps137
    go_wp2_with fail
    go_ret
    exact ⟨ret_bool (by rw [HE.out]; rfl), Below.refl _ _⟩
end Go.Proofs.YtncifeeinogcnaaGreatDoor.Lx
/- What a token at a place is, class by class, as the program's token and the document's one say it. -/
namespace Go.Proofs.YtncifeeinogcnaaGreatDoor.Lx
open Go.RowKit Go.Proofs.LexMath

theorem tl_wide : Wide tl := .inr fun r hr => by simp [tl, ltr, low, upp, dgt]; omega
theorem opr_wide : Wide opr := .inr fun r hr => by simp [opr]; omega
end Go.Proofs.YtncifeeinogcnaaGreatDoor.Lx
