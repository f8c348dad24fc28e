/- Texts of this seat, one behind the other: LxChars, LxEscape, LxBytes, LxIsWord, LxTokMath. -/
import Derived.Test.YtncifeeinogcnaaDoorKn06
import Derived.Deep.QuietTactic
import Derived.BigQuiet
import Derived.Maps.AppendAt
import Derived.Lib.AppendStr
/- The contracts of the small functions: a word's token, a byte of a string. -/
set_option maxRecDepth 100000
namespace Go.Proofs.YtncifeeinogcnaaDoor.Lx
open Go.RowKit Go.Proofs.LexMath

def tokV (t : Tok) : Value := .agg #[.int .i64 t.kind, .string t.text, .int .i64 t.num, .int .i64 t.at_]
theorem call32 (vs : Array Value) (w : World) : (callFunc 71 vs).run Tryd.prog w = .ok (.enter 71 vs) w := run_callFunc Tryd.func71 (by kernel_rfl) (by kernel_rfl) vs w
/-- A block that holds a token. -/
def TokBlk (w : World) (g : Nat) (t : Tok) : Prop := w.heap[g]? = some (.cells #[.int .i64 t.kind, .string t.text, .int .i64 t.num, .int .i64 t.at_] 103 (0, 0))
theorem TokBlk.below {w w' : World} {g B : Nat} {t : Tok} (h : TokBlk w g t) (b : Below B w w') (hg : g < B) : TokBlk w' g t := (b.block g hg).trans h
theorem TokBlk.facts {w : World} {g : Nat} {t : Tok} (h : TokBlk w g t) :
    (w.cell? ⟨g, 0, none⟩ = some (.int .i64 t.kind) ∧ w.cell? ⟨g, 1, none⟩ = some (.string t.text) ∧ w.cell? ⟨g, 2, none⟩ = some (.int .i64 t.num) ∧ w.cell? ⟨g, 3, none⟩ = some (.int .i64 t.at_)) ∧
    (w.frozen? ⟨g, 0, none⟩ = false ∧ w.frozen? ⟨g, 1, none⟩ = false ∧ w.frozen? ⟨g, 2, none⟩ = false ∧ w.frozen? ⟨g, 3, none⟩ = false) :=
  ⟨⟨cell_of_row w g 0 _ _ _ h, cell_of_row w g 1 _ _ _ h, cell_of_row w g 2 _ _ _ h, cell_of_row w g 3 _ _ _ h⟩, ⟨frozen_of_row w g 0 _ _ h, frozen_of_row w g 1 _ _ h, frozen_of_row w g 2 _ _ h, frozen_of_row w g 3 _ _ h⟩⟩
end Go.Proofs.YtncifeeinogcnaaDoor.Lx
/- The contracts of escape and character: the byte for which the head of a text stands in a string. -/
namespace Go.Proofs.YtncifeeinogcnaaDoor.Lx
open Go.RowKit Go.Proofs.LexMath

theorem quiet_left {P : Program} {f : FuncId} {args : Array Value} {w : World} {n : Nat} {v : Value}
    (h : Calls P f args (w.drewN n) fun e w' => e = .returned v ∧ w.drewN n = w') : Calls P f args (w.drewN n) fun e w'' => e = .returned v ∧ ∃ m, w'' = w.drewN m :=
  h.mono fun _ _ ⟨he, hm⟩ => ⟨he, n, hm.symm⟩
theorem quiet_same_left {P : Program} {f : FuncId} {args : Array Value} {w : World} {v : Value}
    (h : Calls P f args w fun e w' => e = .returned v ∧ w = w') : Calls P f args w fun e w'' => e = .returned v ∧ w'' = w :=
  h.mono fun _ _ ⟨he, hm⟩ => ⟨he, hm.symm⟩
theorem below_drewN {B : Nat} {a w : World} (h : Below B a w) (n : Nat) : Below B a (w.drewN n) := ⟨h.os, h.tape, h.output, h.size, h.block⟩
end Go.Proofs.YtncifeeinogcnaaDoor.Lx
/- Rows of the call's own: bytes and tokens that are gathered, append to them, and the string that the bytes are. -/
namespace Go
open Go.RowKit
theorem World.ownsRow.after {w w' : World} {base size n : Nat} {e : TypeId} {v : Value} {xs : List Value} (h : w.ownsRow base e size v n xs) (b : Below w.heap.size w w') : w'.ownsRow base e size v n xs := by
  obtain ⟨hl, h⟩ := h
  refine ⟨hl, ?_⟩
  rcases h with h | ⟨g, cap, cur, hv, hb, hg, hr⟩
  · exact .inl h
  · exact .inr ⟨g, cap, cur, hv, hb, (b.block g (Array.getElem?_eq_some_iff.1 hg).1).trans hg, hr⟩
theorem World.ownsRow.form {w : World} {base size n : Nat} {e : TypeId} {v : Value} {xs : List Value} (h : w.ownsRow base e size v n xs) : ∃ p cap, v = .slice p n cap := by
  obtain ⟨_, ⟨rfl, rfl⟩ | ⟨g, cap, cur, hv, hr⟩⟩ := h
  · exact ⟨none, 0, rfl⟩
  · exact ⟨_, cap, hv⟩
end Go
namespace Go.Proofs.YtncifeeinogcnaaDoor.Lx
open Go.RowKit Go.Proofs.LexMath

def byteVals (l : Bs) : List Value := l.map fun c => .int .u8 (iv c)
theorem byteVals_len (l : Bs) : (byteVals l).length = l.length := by simp [byteVals]
/-- Bytes in a row of the call's own. -/
def BRow (base : Nat) (w : World) (v : Value) (n : Nat) (l : Bs) : Prop := w.ownsRow base 5 1 v n (byteVals l)
theorem BRow.len {base n : Nat} {w : World} {v : Value} {l : Bs} (h : BRow base w v n l) : l.length = n := by
  have := h.1
  rw [byteVals_len] at this
  omega
theorem BRow.nil (base : Nat) (w : World) : BRow base w (.slice none 0 0) 0 [] := World.ownsRow_nil _ _ _ _
theorem BRow.after {base n : Nat} {w w' : World} {v : Value} {l : Bs} (h : BRow base w v n l) (b : Below w.heap.size w w') : BRow base w' v n l := World.ownsRow.after h b
/-- Tokens in a row of the call's own. -/
def TRow (base : Nat) (w : World) (v : Value) (n : Nat) (l : List Tok) : Prop := w.ownsRow base 103 4 v n (tokCells l)
theorem TRow.len {base n : Nat} {w : World} {v : Value} {l : List Tok} (h : TRow base w v n l) : l.length = n := by
  have := h.1
  rw [length_tokCells] at this
  omega
theorem TRow.nil (base : Nat) (w : World) : TRow base w (.slice none 0 0) 0 [] := World.ownsRow_nil _ _ _ _
theorem TRow.after {base n : Nat} {w w' : World} {v : Value} {l : List Tok} (h : TRow base w v n l) (b : Below w.heap.size w w') : TRow base w' v n l := World.ownsRow.after h b
theorem TRow.at {base n : Nat} {w : World} {v : Value} {l : List Tok} (h : TRow base w v n l) : ToksAt w v l := by
  have e := h.len
  subst e
  exact SliceAt.of_owns h
end Go.Proofs.YtncifeeinogcnaaDoor.Lx
/- The contract of isWord. -/
set_option maxRecDepth 100000
namespace Go.Proofs.YtncifeeinogcnaaDoor.Lx
open Go.RowKit Go.Proofs.LexMath

theorem run_len (q : Int → Bool) (r : Bs) : (run q r = r.length) ↔ (r.all fun d => q (iv d)) = true := by
  induction r with
  | nil => simp [run_nil]
  | cons c r ih =>
    by_cases h : q (iv c) = true
    · rw [run_yes q c r h]; simp [h, ih]
    · have h' : q (iv c) = false := by simpa using h
      rw [run_no q c r h']; simp [h']
theorem nil_of_size {s : ByteArray} (h : ¬ 0 < s.size) : s.data.toList = [] := by
  apply List.eq_nil_of_length_eq_zero
  show s.data.size = 0
  have : s.size = s.data.size := rfl
  omega
theorem isw_at (p q : Int → Bool) (s : ByteArray) (h : 0 < s.size) : isw p q s.data.toList = (p (s[0].toNat : Nat) && decide (((1 + run q (s.data.toList.drop 1) : Nat) : Int) = (s.size : Int))) := by
  have e := drop_at s 0 h
  rw [List.drop_zero] at e
  have hl : s.data.toList.length = s.size := rfl
  have e2 := run_len q (s.data.toList.drop 1)
  have hd : (s.data.toList.drop 1).length = s.size - 1 := by rw [List.length_drop, hl]
  rw [hd] at e2
  rw [e]
  rw [show (0 : Nat) + 1 = 1 from rfl]
  generalize s.data.toList.drop 1 = r at *
  simp only [isw, List.drop_succ_cons, List.drop_zero]
  have e3 : (r.all fun d => q (iv d)) = decide (((1 + run q r : Nat) : Int) = (s.size : Int)) := by
    rw [Bool.eq_iff_iff, ← e2, decide_eq_true_eq]
    omega
  rw [e3]
  rfl
theorem isWord_any (s : ByteArray) (v1 v2 : Value) (p q : Int → Bool) (w : World) (hs : s.size ≤ 1000000000) (hq : Wide q) (h1 : Cls w v1 p) (h2 : Cls w v2 q) :
    Calls Tryd.prog 70 #[.string s, v1, v2] w fun e w' => e = .returned (.bool (isw p q s.data.toList)) ∧ Below w.heap.size w w' := by
  have hc := h1
  obtain ⟨f, caps, rfl, hf, hcl⟩ := hc
  obtain ⟨f2, caps2, rfl⟩ := h2.form
  have HW := Lib.hid hf
  have HQ := Lib.hid hq
  clear hf h1 hq
  by_cases h0 : 0 < s.size
  · have HV := Lib.hid (isw_at p q s h0)
    have hb : (s[0].toNat : Int) ≤ 255 := by have := s[0].toNat_lt; omega
    have a1 : s.toList.isEmpty = false := by
      rw [ByteArray.toList_eq]
      cases hx : s.data.toList with
      | nil => have : s.data.toList.length = s.size := rfl; rw [hx] at this; simp at this; omega
      | cons => rfl
    cases hp : p (s[0].toNat : Nat) with
    | true =>
      have HL := hcl (s[0].toNat : Nat) w (Below.refl _ _)
      rw [hp] at HV HL
      have HL := Lib.hid HL
      clear hp hcl
      go_enter Tryd.func70, Tryd.ntmps70
      go_wp2_with ((refine wpList_call_slot_if (o := ⟨some 14, _, _, _, _, _⟩) (by rfl) 10 _ _ rfl f caps rfl HW.out (#[.int .i32 (s[0].toNat : Nat)] ++ caps) (by simp [go_sem]) ?_; refine HL.out.mono ?_; rintro e w1 ⟨rfl, hs⟩; refine ⟨_, rfl, ?_⟩; simp only [Act.put, List.setIfInBounds_toArray, List.set_cons_succ, List.set_cons_zero]; have HS := Lib.hid hs; clear hs))
      have S := span_any s 1 _ q w1 (by omega) (by omega) HQ.out (h2.below HS.out)
      generalize 1 + run q (s.data.toList.drop 1) = m at S HV
      refine S.mono ?_
      rintro e w2 ⟨rfl, b2⟩
      clear S
      go_wp2
      go_ret
      refine ⟨ret_bool ?_, HS.out.trans (b2.mono HS.out.size)⟩
      rw [HV.out]
      rfl
    | false => 
      have HL := hcl (s[0].toNat : Nat) w (Below.refl _ _)
      rw [hp] at HV HL
      have HL := Lib.hid HL
      clear hp hcl
      go_enter Tryd.func70, Tryd.ntmps70
      go_wp2_with ((refine wpList_call_slot_if (o := ⟨some 14, _, _, _, _, _⟩) (by rfl) 10 _ _ rfl f caps rfl HW.out (#[.int .i32 (s[0].toNat : Nat)] ++ caps) (by simp [go_sem]) ?_; refine HL.out.mono ?_; rintro e w1 ⟨rfl, hs⟩; refine ⟨_, rfl, ?_⟩; simp only [Act.put, List.setIfInBounds_toArray, List.set_cons_succ, List.set_cons_zero]; have HS := Lib.hid hs; clear hs))
      go_ret
      exact ⟨ret_bool (by rw [HV.out]; rfl), HS.out⟩
  · have e := nil_of_size h0
    have e2 : s.toList = [] := by rw [ByteArray.toList_eq]; exact e
    have HE := Lib.hid e
    clear e hcl
    go_enter Tryd.func70, Tryd.ntmps70
    go_wp2_with fail
    go_ret
    exact ⟨ret_bool (by rw [HE.out]; rfl), Below.refl _ _⟩
end Go.Proofs.YtncifeeinogcnaaDoor.Lx
/- What a token at a place is, class by class, as the program's token and the document's one say it. -/
namespace Go.Proofs.YtncifeeinogcnaaDoor.Lx
open Go.RowKit Go.Proofs.LexMath

theorem tl_wide : Wide tl := .inr fun r hr => by simp [tl, ltr, low, upp, dgt]; omega
theorem opr_wide : Wide opr := .inr fun r hr => by simp [opr]; omega
end Go.Proofs.YtncifeeinogcnaaDoor.Lx
