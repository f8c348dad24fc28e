/- Texts of this seat, one behind the other: LxViews, LxSlot, LxArith, LxRead, LxCls. -/
import Derived.Test.YtncifeeinogcnaaDoorRows
import Derived.Test.YtncifeeinogcnaaDoorKn04
import Derived.WalkKit
import Derived.ProofKit
import Derived.Below
import Derived.Deep.OwnRows
import Derived.Test.YtncifeeinogcnaaDoorKn02
import Derived.OpenShut
import Derived.Outline
import Derived.LoopTactic
import Derived.Laws.Rows
import Derived.Laws.BytesArg
import Derived.Laws.RangeAny
import Derived.Lib.Hide
import Derived.Lib.OthersKept
/- Slices of tokens, as lists, in a world. -/
namespace Go.Proofs.YtncifeeinogcnaaDoor.Lx
open Go.RowKit Go.Proofs.LexMath

def _root_.Go.Proofs.LexMath.Tok.cells (n : Tok) : List Value := [.int .i64 n.kind, .string n.text, .int .i64 n.num, .int .i64 n.at_]
def tokCells (ns : List Tok) : List Value := ns.flatMap Tok.cells
/-- Cells, one behind the other. -/
def CellsIn (w : World) (b off : Nat) (cs : List Value) : Prop := ∀ j u, cs[j]? = some u → w.cell? ⟨b, off + j, none⟩ = some u
/-- A slice of n elements of so many cells each. -/
def SliceAt (w : World) (size : Nat) (v : Value) (n : Nat) (cs : List Value) : Prop :=
  cs.length = n * size ∧ ∃ p cap, v = .slice p n cap ∧ n ≤ cap ∧ cap ≤ maxLen ∧ (n ≠ 0 → ∃ b off, p = some ⟨b, off, none⟩ ∧ b < w.heap.size ∧ CellsIn w b off cs)
def ToksAt (w : World) (v : Value) (ns : List Tok) : Prop := SliceAt w 4 v ns.length (tokCells ns)
theorem length_tokCells (ns : List Tok) : (tokCells ns).length = ns.length * 4 := by
  induction ns with
  | nil => rfl
  | cons n ns ih =>
    unfold tokCells at ih ⊢
    rw [List.flatMap_cons, List.length_append, ih]
    simp [Tok.cells]
    omega
theorem take_get {α : Type} {l : List α} {n j : Nat} {u : α} (h : (l.take n)[j]? = some u) : l[j]? = some u := by
  rw [List.getElem?_take] at h
  split at h
  · exact h
  · simp at h
theorem CellsIn.kept {w w' : World} {b off : Nat} {cs : List Value} (h : CellsIn w b off cs) (e : w'.heap[b]? = w.heap[b]?) : CellsIn w' b off cs :=
  fun j u hj => by rw [World.cell?_of_block (w := w) (w' := w') (a := ⟨b, off + j, none⟩) e]; exact h j u hj
theorem SliceAt.below {w w' : World} {size n : Nat} {v : Value} {cs : List Value} (h : SliceAt w size v n cs) (b : Below w.heap.size w w') : SliceAt w' size v n cs := by
  obtain ⟨h1, p, cap, rfl, h2, h3, h4⟩ := h
  refine ⟨h1, p, cap, rfl, h2, h3, fun hn => ?_⟩
  obtain ⟨bk, off, rfl, hb, hc⟩ := h4 hn
  exact ⟨bk, off, rfl, Nat.lt_of_lt_of_le hb b.size, hc.kept (b.block bk hb)⟩
theorem SliceAt.of_owns {w : World} {base : Nat} {e : TypeId} {size n : Nat} {v : Value} {xs : List Value} (h : w.ownsRow base e size v n xs) : SliceAt w size v n xs := by
  obtain ⟨hl, h⟩ := h
  rcases h with ⟨rfl, rfl⟩ | ⟨g, cap, cur, rfl, hb, hg, hn, hm, hs, ht⟩
  · exact ⟨hl, none, 0, rfl, Nat.le_refl _, by unfold maxLen; omega, fun h => absurd rfl h⟩
  · refine ⟨hl, _, cap, rfl, hn, hm, fun _ => ⟨g, 0, rfl, ?_, ?_⟩⟩
    · exact (Array.getElem?_eq_some_iff.1 hg).1
    · intro j u hj
      rw [← ht] at hj
      have hj' := take_get hj
      simp [World.cell?, hg]
      simpa using hj'
theorem SliceAt.nil (w : World) (size : Nat) : SliceAt w size (.slice none 0 0) 0 [] := ⟨by simp, none, 0, rfl, Nat.le_refl _, by unfold maxLen; omega, fun h => absurd rfl h⟩
theorem ToksAt.below {w w' : World} {v : Value} {ns : List Tok} (h : ToksAt w v ns) (b : Below w.heap.size w w') : ToksAt w' v ns := SliceAt.below h b
end Go.Proofs.YtncifeeinogcnaaDoor.Lx
/- Function values of the lexer. -/
namespace Go.Proofs.YtncifeeinogcnaaDoor.Lx
theorem call63 (vs : Array Value) (w : World) : (callFunc 94 vs).run Tryd.prog w = .ok (.enter 94 vs) w := run_callFunc Tryd.func94 (by kernel_rfl) (by kernel_rfl) vs w
theorem call64 (vs : Array Value) (w : World) : (callFunc 95 vs).run Tryd.prog w = .ok (.enter 95 vs) w := run_callFunc Tryd.func95 (by kernel_rfl) (by kernel_rfl) vs w
theorem call65 (vs : Array Value) (w : World) : (callFunc 96 vs).run Tryd.prog w = .ok (.enter 96 vs) w := run_callFunc Tryd.func96 (by kernel_rfl) (by kernel_rfl) vs w
end Go.Proofs.YtncifeeinogcnaaDoor.Lx
/- Contracts of the functions of layer 1 that only reckon with numbers, over the translated program: what each one answers, and that it leaves the world alone. -/
set_option maxRecDepth 100000
namespace Go.Proofs.YtncifeeinogcnaaDoor.Lx
open Go.RowKit

theorem ret_int {k : IntKind} {a b : Int} (h : a = b) : Ending.returned (.int k a) = .returned (.int k b) := by rw [h]

theorem wrap_any (n : Int) (w : World) :
    Calls Tryd.prog 75 #[.int .i64 n] w fun e w' => e = .returned (.int .i64 (wr n)) ∧ w = w' := by
  go_enter Tryd.func75, Tryd.ntmps75
  go_wp2
  go_ret
  exact ⟨ret_int (wr_shift n), rfl⟩
end Go.Proofs.YtncifeeinogcnaaDoor.Lx
/- The contract of word.Read: a text that is the text of a number of the language is read as that number; any other text is refused; nothing that was there is written. -/
namespace Go.Proofs.YtncifeeinogcnaaDoor.Lx
open Go.RowKit

theorem width_pos (s : ByteArray) (pos : Nat) (h : pos < s.size) : 1 ≤ (Utf8.decode s pos).2 := by
  by_cases ha : (s[pos]'h).toNat < 128
  · rw [decode_ascii s pos h ha]
    exact Nat.le_refl _
  · exact (decode_high s pos h (by omega)).2
theorem below_iter (w : World) (s : ByteArray) (pos : Nat) : Below w.heap.size w (w.iter s pos) := (Below.refl _ _).alloc (Nat.le_refl _) _
theorem size_iter (w : World) (s : ByteArray) (pos : Nat) : (w.iter s pos).heap.size = w.heap.size + 1 := by simp [World.iter]
end Go.Proofs.YtncifeeinogcnaaDoor.Lx
/- Classes of characters: function values that tell whether a character is one of those that are meant. -/
set_option maxRecDepth 100000
namespace Go.Proofs.YtncifeeinogcnaaDoor.Lx
open Go.RowKit Go.Proofs.LexMath

theorem ret_bool {a b : Bool} (h : a = b) : Ending.returned (.bool a) = .returned (.bool b) := by rw [h]
/-- A function value that tells of a character whether it is one of those that are meant. -/
def Cls (w : World) (v : Value) (p : Int → Bool) : Prop :=
  ∃ f caps, v = .func (.func f) #[] caps ∧ (∀ vs W, (callFunc f vs).run Tryd.prog W = .ok (.enter f vs) W) ∧
    ∀ r W, Below w.heap.size w W → Calls Tryd.prog f (#[.int .i32 r] ++ caps) W fun e W' => e = .returned (.bool (p r)) ∧ Below W.heap.size W W'
theorem Cls.below {w w' : World} {v : Value} {p : Int → Bool} (h : Cls w v p) (b : Below w.heap.size w w') : Cls w' v p := by
  obtain ⟨f, caps, rfl, hf, hc⟩ := h
  exact ⟨f, caps, rfl, hf, fun r W hW => hc r W (b.trans (hW.mono b.size))⟩
theorem Cls.congr {w : World} {v : Value} {p q : Int → Bool} (h : Cls w v p) (e : ∀ r, p r = q r) : Cls w v q := (funext e : p = q) ▸ h
/-- A function that returns a class. -/
def CRet (W : World) (p : Int → Bool) (e : Ending) (w' : World) : Prop := ∃ v, e = .returned v ∧ Cls w' v p ∧ Below W.heap.size W w'
theorem CRet.congr {W w' : World} {p q : Int → Bool} {e : Ending} (h : CRet W p e w') (g : ∀ r, p r = q r) : CRet W q e w' := (funext g : p = q) ▸ h

theorem between1_any (r a b : Int) (x y : Nat) (w : World) (hx : w.cell? ⟨x, 0, none⟩ = some (.int .i32 a)) (hy : w.cell? ⟨y, 0, none⟩ = some (.int .i32 b)) :
    Calls Tryd.prog 94 #[.int .i32 r, .pointer (some ⟨x, 0, none⟩), .pointer (some ⟨y, 0, none⟩)] w fun e w' => e = .returned (.bool (decide (a ≤ r) && decide (r ≤ b))) ∧ w = w' := by
  by_cases h : a ≤ r
  · have h1 : decide (a ≤ r) = true := by simpa using h
    go_enter Tryd.func94, Tryd.ntmps94
    go_wp2
    go_ret
    exact ⟨ret_bool (by simp [h]), rfl⟩
  · have h1 : decide (a ≤ r) = false := by simpa using h
    go_enter Tryd.func94, Tryd.ntmps94
    go_wp2
    go_ret
    exact ⟨ret_bool (by simp), rfl⟩
theorem cell_new (w : World) (v : Value) (t : TypeId) : (w.alloc (.cells #[v] t)).cell? ⟨w.heap.size, 0, none⟩ = some v := by
  have h := heap_alloc_new w (.cells #[v] t)
  unfold World.cell?
  rw [h]; rfl
theorem between_any (a b : Int) (w : World) : Calls Tryd.prog 84 #[.int .i32 a, .int .i32 b] w (CRet w fun r => decide (a ≤ r) && decide (r ≤ b)) := by
  go_enter Tryd.func84, Tryd.ntmps84
  go_wp2
  go_ret
  refine ⟨_, rfl, ⟨_, _, rfl, call63, fun r W hW => ?_⟩, ((Below.refl _ _).alloc (Nat.le_refl _) _).alloc (by simp) _⟩
  have h1 : W.cell? ⟨w.heap.size, 0, none⟩ = some (.int .i32 a) := by
    rw [hW.cell (by simp; omega)]
    rw [World.cell?_alloc_lt _ _ _ (by simp)]
    exact cell_new w _ _
  have h2 : W.cell? ⟨w.heap.size + 1, 0, none⟩ = some (.int .i32 b) := by
    rw [hW.cell (by simp)]
    simp
  refine (between1_any r a b _ _ W h1 h2).mono ?_
  rintro e w' ⟨rfl, rfl⟩
  exact ⟨rfl, Below.refl _ _⟩

set_option maxHeartbeats 400000 in
theorem oneOf1_any (r : Int) (s : ByteArray) (x : Nat) (w : World) (hs : ∀ i (h : i < s.size), (s[i]'h).toNat < 128) (hx : w.cell? ⟨x, 0, none⟩ = some (.string s)) (_hm : s.size ≤ 1000) :
    Calls Tryd.prog 96 #[.int .i32 r, .pointer (some ⟨x, 0, none⟩)] w fun e w' => e = .returned (.bool (s.data.toList.any fun c => iv c == r)) ∧ Below w.heap.size w w' := by
  have bi := below_iter w s
  have si := size_iter w s
  have HS := Lib.hid hs
  clear hs
  go_enter Tryd.func96, Tryd.ntmps96
  go_wp2
  go_loopw [5] (fun a wr => ∃ pos : Nat, pos ≤ s.size ∧ wr = w.iter s pos ∧ (s.data.toList.take pos).any (fun c => iv c == r) = false) (fun _ wr => s.size - wr.iterPos w.heap.size)
  case atStart => exact ⟨0, Nat.zero_le _, rfl, rfl⟩
  case round =>
    obtain ⟨pos, hps, rfl, hn⟩ := hrel
    have HN := Lib.hid hn
    clear hn
    by_cases hp : pos < s.size
    · have hnx : ∀ ty, (Instr.next (.pointer (some ⟨w.heap.size, 0, none⟩)) true ty).run Tryd.prog (w.iter s pos) = _ := fun ty => run_next_ascii w s pos ty hp (HS.out pos hp)
      have hl : pos < s.data.toList.length := hp
      have e : s.data.toList.take (pos + 1) = s.data.toList.take pos ++ [s[pos]] := by rw [List.take_succ_eq_append_getElem hl]; rfl
      have HE := Lib.hid e
      clear e
      obtain ⟨c, hc⟩ : ∃ c, c = s[pos] := ⟨_, rfl⟩
      rw [← hc] at hnx
      have HC := Lib.hid hc
      clear hc
      go_wp2
      · go_ret
        refine ⟨ret_bool ?_, bi _⟩
        have hcr : ((c.toNat : Int) == r) = true := by assumption
        symm
        rw [List.any_eq_true]
        exact ⟨c, by rw [HC.out]; exact List.getElem_mem hl, hcr⟩
      · go_roundw
        case rel =>
          have hcr : ((c.toNat : Int) == r) = false := by assumption
          exact ⟨pos + 1, by omega, rfl, by rw [HE.out, List.any_append, HN.out, ← HC.out]; simpa [iv] using hcr⟩
        case measure => simp; omega
    · have hnx : ∀ ty, (Instr.next (.pointer (some ⟨w.heap.size, 0, none⟩)) true ty).run Tryd.prog (w.iter s pos) = _ := fun ty => run_next_end w s pos ty hp
      go_wp2
      go_ret
      refine ⟨ret_bool ?_, bi _⟩
      rw [← HN.out, List.take_of_length_le (by show s.data.size ≤ pos; have : s.size = s.data.size := rfl; omega)]
theorem oneOf_any (s : ByteArray) (w : World) (hs : ∀ i (h : i < s.size), (s[i]'h).toNat < 128) (hm : s.size ≤ 1000) : Calls Tryd.prog 88 #[.string s] w (CRet w fun r => s.data.toList.any fun c => iv c == r) := by
  have HS := Lib.hid hs
  clear hs
  go_enter Tryd.func88, Tryd.ntmps88
  go_wp2
  go_ret
  refine ⟨_, rfl, ⟨_, _, rfl, call65, fun r W hW => ?_⟩, (Below.refl _ _).alloc (Nat.le_refl _) _⟩
  have h1 : W.cell? ⟨w.heap.size, 0, none⟩ = some (.string s) := by
    rw [hW.cell (by simp)]
    exact cell_new w _ _
  exact oneOf1_any r s _ W HS.out h1 hm
def pred (ps : List (Int → Bool)) (k : Nat) : Int → Bool := ps.getD k fun _ => false
theorem any_take (ps : List (Int → Bool)) (r : Int) (k : Nat) (h : k < ps.length) : (ps.take (k + 1)).any (fun p => p r) = ((ps.take k).any (fun p => p r) || pred ps k r) := by
  rw [List.take_succ_eq_append_getElem h, List.any_append]
  have e : pred ps k = ps[k] := by simp [pred, List.getD_eq_getElem?_getD, List.getElem?_eq_getElem h]
  rw [e]
  simp only [List.any_cons, List.any_nil, Bool.or_false]
set_option maxHeartbeats 400000 in
theorem either1_any (r : Int) (g b : Nat) (vs : List Value) (ps : List (Int → Bool)) (w : World) (hn : ps.length ≤ 10) (hb : b < w.heap.size)
    (hx : w.cell? ⟨g, 0, none⟩ = some (.slice (some ⟨b, 0, none⟩) ps.length ps.length)) (hc : ∀ i, i < ps.length → w.cell? ⟨b, i, none⟩ = some (vs.getD i default) ∧ Cls w (vs.getD i default) (pred ps i)) :
    Calls Tryd.prog 95 #[.int .i32 r, .pointer (some ⟨g, 0, none⟩)] w fun e w' => e = .returned (.bool (ps.any fun p => p r)) ∧ Below w.heap.size w w' := by
  have HC := Lib.hid hc
  clear hc
  obtain ⟨n, hn'⟩ : ∃ n, n = ps.length := ⟨_, rfl⟩
  rw [← hn'] at hx hn
  have HNN := Lib.hid hn'
  clear hn'
  go_enter Tryd.func95, Tryd.ntmps95
  go_wp2
  go_loopw [8] (fun i wr => ∃ k : Nat, k ≤ n ∧ i = .int .i64 k ∧ Below w.heap.size w wr ∧ (ps.take k).any (fun p => p r) = false) (fun i _ => n - (intOf i).toNat)
  case atStart => exact ⟨0, Nat.zero_le _, rfl, Below.refl _ _, rfl⟩
  case round =>
    obtain ⟨wo, hwo⟩ : ∃ wo : World, wo = wr := ⟨_, rfl⟩
    subst hwo
    obtain ⟨k, hk, rfl, hbl, hf⟩ := hrel
    have HF := Lib.hid hf
    clear hf
    by_cases hlt : k < n
    · obtain ⟨h1, f, caps, hv, hf, hcl⟩ := HC.out k (by rw [← HNN.out]; exact hlt)
      rw [hv, ← hbl.cell (p := ⟨b, k, none⟩) hb] at h1
      have HW := Lib.hid hf
      have HL := Lib.hid (hcl r wo hbl)
      have HB := Lib.hid hbl
      clear hf hcl hbl hv hx
      have e := any_take ps r k (by rw [← HNN.out]; exact hlt)
      rw [HF.out, Bool.false_or] at e
      have HE := Lib.hid e
      clear e
      by_cases hp : pred ps k r = true
      · have HP := Lib.hid hp
        have HL' := HL.out
        rw [hp] at HL'
        have HL := Lib.hid HL'
        clear hp HL'
        go_wp2_with ((refine wpList_call_slot (o := ⟨some 14, _, _, _, _, _⟩) rfl 12 _ _ rfl f caps rfl HW.out (#[.int .i32 r] ++ caps) (by simp [go_sem]) ?_; refine HL.out.mono ?_; rintro e w1 ⟨rfl, hs⟩; refine ⟨_, rfl, ?_⟩; simp only [Act.put, List.setIfInBounds_toArray, List.set_cons_succ, List.set_cons_zero]; have HS := Lib.hid hs; clear hs))
        go_ret
        refine ⟨ret_bool ?_, HB.out.trans (HS.out.mono HB.out.size)⟩
        have h1 : (ps.take (k + 1)).any (fun p => p r) = true := by rw [HE.out, HP.out]
        rw [List.any_eq_true] at h1
        obtain ⟨q, hq, hq'⟩ := h1
        exact (List.any_eq_true.2 ⟨q, List.mem_of_mem_take hq, hq'⟩).symm
      · have hp' : pred ps k r = false := by simpa using hp
        have HP := Lib.hid hp'
        have HL' := HL.out
        rw [hp'] at HL'
        have HL := Lib.hid HL'
        clear hp hp' HL'
        go_wp2_with ((refine wpList_call_slot (o := ⟨some 14, _, _, _, _, _⟩) rfl 12 _ _ rfl f caps rfl HW.out (#[.int .i32 r] ++ caps) (by simp [go_sem]) ?_; refine HL.out.mono ?_; rintro e w1 ⟨rfl, hs⟩; refine ⟨_, rfl, ?_⟩; simp only [Act.put, List.setIfInBounds_toArray, List.set_cons_succ, List.set_cons_zero]; have HS := Lib.hid hs; clear hs))
        go_roundw
        case rel => exact ⟨k + 1, by omega, by go_num, HB.out.trans (HS.out.mono HB.out.size), by rw [HE.out, HP.out]⟩
        case measure => simp [intOf]; omega
    · go_wp2
      go_ret
      refine ⟨ret_bool ?_, hbl⟩
      rw [← HF.out, List.take_of_length_le (by rw [← HNN.out]; omega)]
end Go.Proofs.YtncifeeinogcnaaDoor.Lx
