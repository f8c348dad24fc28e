/- Texts of this seat, one behind the other: DaQ, TxA. -/
import Derived.Test.YtncifeeinogcnaaDoorKn25
import Derived.Test.YtncifeeinogcnaaDoorKn22
import Derived.Test.YtncifeeinogcnaaDoorKn20
import Derived.Test.YtncifeeinogcnaaDoorKn27
import Derived.BigQuiet
import Derived.Lib.QuietBelow
import Derived.RangeFuncWrites
import Derived.RangeFuncBox
import Derived.RangeFuncLeaves
import Derived.RangeFuncNested
import Derived.RangeFuncBound
import Derived.RangeFuncCalls
import Derived.Shelf.Abstract
import Derived.WalkKit
import Derived.OwnWalkIn
import Derived.TacticsInMore
import Derived.LoopNIn
import Derived.LoopIn
import Derived.Maps.OwnIn
import Derived.Test.YtncifeeinogcnaaDoorKn09
import Derived.Test.YtncifeeinogcnaaDoorKn01
import Derived.Lib.ItoaNum
/- The law's variable and list. -/
set_option maxRecDepth 100000
namespace Go.Proofs.YtncifeeinogcnaaDoor
open Go.Shelf Go.RowKit Go.Lib Go.Sort Go.Maps Go.Proofs.TreeMath Go.Proofs.LexMath

theorem lit_slice (w : World) (cs : Array Value) (t : TypeId) (size n : Nat) (hs : cs.size = n * size) (hm : n ≤ maxLen) : SliceAt (w.alloc (.cells cs t)) size (.slice (some ⟨w.heap.size, 0, none⟩) n n) n cs.toList :=
  ⟨by simpa using hs, _, n, rfl, Nat.le_refl _, hm, fun _ => ⟨_, 0, rfl, by simp, lit_at w cs t⟩⟩
theorem variable_any1 (p : Int) (w : World) : Calls Tryd.prog 39 #[.int .i64 p] w (NRet w [vN p]) := by
  have RW : Hid (NodesAt (w.alloc (.cells #[.int .i64 31, .string ⟨#[]⟩, .int .i64 p, .int .i64 0] 42)) (.slice (some ⟨w.heap.size, 0, none⟩) 1 1) [vN p]) := Lib.hid (lit_slice w _ 42 4 1 rfl (by decide))
  go_enter Tryd.func39, Tryd.ntmps39
  go_wp2
  first | go_ret | skip
  exact ⟨_, rfl, RW.out, box_keep _⟩
def sLst : ByteArray := ⟨#[76, 105, 115, 116]⟩
def sNil : ByteArray := ⟨#[78, 105, 108]⟩
def sCns : ByteArray := ⟨#[67, 111, 110, 115]⟩
/-- The chapter's example. -/
def lstD (a b c : Value) : List Dt := [⟨sLst, 1, c, [⟨sNil, a, []⟩, ⟨sCns, b, [[vN 0], [⟨32, sLst, 0, 1⟩, vN 0]]⟩]⟩]
def LstP (w : World) (e : Ending) (w' : World) : Prop := ∃ v a b c, e = .returned v ∧ DtsAt w' v (lstD a b c) ∧ Below w.heap.size w w'
theorem list_any (w : World) : Calls Tryd.prog 21 #[] w (LstP w) := by
  have V := Lib.hid (fun W => variable_any1 0 W)
  have N2 : Hid (NodesAt (w.alloc (.cells #[.int .i64 32, .string sLst, .int .i64 0, .int .i64 1, .int .i64 31, .string ⟨#[]⟩, .int .i64 0, .int .i64 0] 42)) (.slice (some ⟨w.heap.size, 0, none⟩) 2 2) [⟨32, sLst, 0, 1⟩, vN 0]) := Lib.hid (lit_slice w _ 42 4 2 rfl (by decide))
  have B1 := Lib.hid (box_keep (W := w) (.cells #[.int .i64 32, .string sLst, .int .i64 0, .int .i64 1, .int .i64 31, .string ⟨#[]⟩, .int .i64 0, .int .i64 0] 42))
  go_enter Tryd.func21, Tryd.ntmps21
  go_wp2_with fail
  refine (V.out _).mono ?_
  rintro e w3 ⟨v1, rfl, n1, b3⟩
  obtain ⟨q1, c1, rfl⟩ := nodes_form' n1
  have NA := Lib.hid n1
  have B3 := Lib.hid b3
  clear n1 b3
  go_wp2
  first | go_ret | skip
  have M2 := N2.out.below B3.out
  have BC := B1.out.trans (B3.out.mono B1.out.size)
  have L1 := lit_slice w3 #[.slice q1 1 c1, .slice (some ⟨w.heap.size, 0, none⟩) 2 2] 36 1 2 rfl (by decide)
  have LL : ListsAt (w3.alloc (.cells #[.slice q1 1 c1, .slice (some ⟨w.heap.size, 0, none⟩) 2 2] 36)) (.slice (some ⟨w3.heap.size, 0, none⟩) 2 2) [[vN 0], [⟨32, sLst, 0, 1⟩, vN 0]] := ⟨_, L1, fun i hi => by
    match i, hi with
    | 0, _ => exact NA.out.below (box_keep _)
    | 1, _ => exact M2.below (box_keep _)⟩
  obtain ⟨W1, hW1⟩ : ∃ W1, W1 = w3.alloc (.cells #[.slice q1 1 c1, .slice (some ⟨w.heap.size, 0, none⟩) 2 2] 36) := ⟨_, rfl⟩
  have z1 : W1.heap.size = w3.heap.size + 1 := by rw [hW1]; simp
  have k1 : Below w3.heap.size w3 W1 := by rw [hW1]; exact box_keep _
  rw [← hW1] at LL
  have L2 := lit_slice W1 #[.string sNil, .slice none 0 0, .string sCns, .slice (some ⟨w3.heap.size, 0, none⟩) 2 2] 33 2 2 rfl (by decide)
  obtain ⟨W2, hW2⟩ : ∃ W2, W2 = W1.alloc (.cells #[.string sNil, .slice none 0 0, .string sCns, .slice (some ⟨w3.heap.size, 0, none⟩) 2 2] 33) := ⟨_, rfl⟩
  have z2 : W2.heap.size = w3.heap.size + 2 := by rw [hW2]; simp [z1]
  have k2 : Below W1.heap.size W1 W2 := by rw [hW2]; exact box_keep _
  rw [← hW2, z1] at L2
  have L3 := lit_slice W2 #[.string sLst, .int .i64 1, .slice (some ⟨w3.heap.size + 1, 0, none⟩) 2 2] 30 3 1 rfl (by decide)
  have k3 := box_keep (W := W2) (.cells #[.string sLst, .int .i64 1, .slice (some ⟨w3.heap.size + 1, 0, none⟩) 2 2] 30)
  rw [z2] at L3
  have CT : CtsAt W2 (.slice (some ⟨w3.heap.size + 1, 0, none⟩) 2 2) [⟨sNil, .slice none 0 0, []⟩, ⟨sCns, .slice (some ⟨w3.heap.size, 0, none⟩) 2 2, [[vN 0], [⟨32, sLst, 0, 1⟩, vN 0]]⟩] := ⟨L2, fun c hc => by
    simp only [List.mem_cons, List.not_mem_nil, or_false] at hc
    rcases hc with rfl | rfl
    · exact ⟨[], ⟨rfl, _, _, rfl, Nat.le_refl _, by unfold maxLen; omega, fun h => absurd rfl h⟩, fun i hi => absurd hi (Nat.not_lt_zero _)⟩
    · exact LL.below k2⟩
  have DT : DtsAt (W2.alloc (.cells #[.string sLst, .int .i64 1, .slice (some ⟨w3.heap.size + 1, 0, none⟩) 2 2] 30)) (.slice (some ⟨w3.heap.size + 2, 0, none⟩) 1 1) (lstD (.slice none 0 0) (.slice (some ⟨w3.heap.size, 0, none⟩) 2 2) (.slice (some ⟨w3.heap.size + 1, 0, none⟩) 2 2)) := ⟨L3, fun d hd => by
    simp only [lstD, List.mem_cons, List.not_mem_nil, or_false] at hd
    subst hd
    exact CT.below k3⟩
  subst hW2 hW1
  exact ⟨_, _, _, _, rfl, DT, ((BC.trans (k1.mono BC.size)).trans (k2.mono (Nat.le_trans BC.size k1.size))).trans (k3.mono (Nat.le_trans (Nat.le_trans BC.size k1.size) k2.size))⟩
theorem lst_check (a b c : Value) : checkD (lstD a b c) = 0 := by kernel_rfl
theorem lst_tiny (a b c : Value) : ∀ d ∈ lstD a b c, TinyD d := by
  intro d hd
  simp only [lstD, List.mem_cons, List.not_mem_nil, or_false] at hd
  subst hd
  refine ⟨by simp [sLst, ByteArray.size], by simp, fun c hc => ?_⟩
  simp only [List.mem_cons, List.not_mem_nil, or_false] at hc
  rcases hc with rfl | rfl
  · exact ⟨by simp [sNil, ByteArray.size], by simp, fun t ht => by simp at ht⟩
  · refine ⟨by simp [sCns, ByteArray.size], by simp, fun t ht => ?_⟩
    simp only [List.mem_cons, List.not_mem_nil, or_false] at ht
    rcases ht with rfl | rfl
    · exact ⟨by simp, fun n hn => by simp at hn; subst hn; simp [vN, ByteArray.size]⟩
    · refine ⟨by simp, fun n hn => ?_⟩
      simp only [List.mem_cons, List.not_mem_nil, or_false] at hn
      rcases hn with rfl | rfl
      · simp [sLst, ByteArray.size]
      · simp [vN, ByteArray.size]
end Go.Proofs.YtncifeeinogcnaaDoor
/- The text of a type, as bytes: plain mathematics. -/
set_option maxRecDepth 100000
namespace Go.Proofs.YtncifeeinogcnaaDoor
open Go.Proofs.TreeMath

/-- In brackets, or not. -/
def brk (b : Bool) (s : List UInt8) : List UInt8 := if b = true then 40 :: (s ++ [41]) else s
/-- A node's text, of its kids' texts. -/
def shN (n : Nd) (ks : List (Nd × List UInt8)) : List UInt8 :=
  if n.kind = 31 then 39 :: Lib.itoa n.num
  else if n.text = sArrow then
    (match ks with
     | [a, b] => brk (decide (a.1.text = sArrow)) a.2 ++ [32, 45, 62, 32] ++ b.2
     | _ => [])
  else n.text.data.toList ++ ks.flatMap (fun a => 32 :: brk (decide (0 < a.1.kids)) a.2)
def shF : F → List (Nd × List UInt8)
  | .nil => []
  | .cons n k r => (n, shN n (shF k)) :: shF r
theorem brk_len (b : Bool) (s : List UInt8) : (brk b s).length ≤ s.length + 2 := by
  unfold brk; split <;> simp
theorem decDigits_len : ∀ (f u : Nat), u < 10 ^ (f + 1) → (Lib.decDigits u).length ≤ f + 1
  | 0, u, h => by rw [Lib.decDigits, dif_pos (by simpa using h)]; simp
  | f + 1, u, h => by
    rw [Lib.decDigits]
    split
    · simp
    · have := decDigits_len f (u / 10) (by rw [Nat.div_lt_iff_lt_mul (by decide)]; rw [Nat.pow_succ] at h; exact h)
      simp; omega
/-- The nodes of types: their numbers are few, their texts short. -/
def okT : F → Prop
  | .nil => True
  | .cons n k r => ((n.kind = 31 ∧ 0 ≤ n.num ∧ n.num ≤ 1048576) ∨ n.kind = 32) ∧ n.text.size ≤ 100000000 ∧ (n.text = sArrow → n.kind = 32 → k.cnt = 2) ∧ n.kids = k.cnt ∧ (n.kind = 31 → k = .nil) ∧ okT k ∧ okT r
theorem itoa_len {n : Int} (h0 : 0 ≤ n) (h1 : n ≤ 1048576) : (Lib.itoa n).length ≤ 7 := by
  unfold Lib.itoa
  rw [if_neg (by omega)]
  exact decDigits_len 6 _ (by omega)
/-- How long all texts of a forest are, with what stands around each. -/
def shL (l : List (Nd × List UInt8)) : Nat := (l.map fun a => a.2.length + 3).sum
theorem shL_cons (a : Nd × List UInt8) (l : List (Nd × List UInt8)) : shL (a :: l) = a.2.length + 3 + shL l := by simp [shL]
theorem flat_len (l : List (Nd × List UInt8)) : (l.flatMap (fun a => 32 :: brk (decide (0 < a.1.kids)) a.2)).length ≤ shL l := by
  induction l with
  | nil => simp [shL]
  | cons a l ih =>
    rw [List.flatMap_cons, List.length_append, shL_cons]
    have := brk_len (decide (0 < a.1.kids)) a.2
    simp only [List.length_cons]
    omega
theorem shN_len (n : Nd) (ks : List (Nd × List UInt8)) (hn : n.kind = 31 → 0 ≤ n.num ∧ n.num ≤ 1048576) (ht : n.text.size ≤ 100000000) : (shN n ks).length ≤ 100000008 + shL ks := by
  unfold shN
  split
  · rename_i h
    have := itoa_len (hn h).1 (hn h).2
    simp; omega
  · split
    · split
      · rename_i a b
        have := brk_len (decide (a.1.text = sArrow)) a.2
        simp [shL]; omega
      · simp
    · have := flat_len ks
      rw [List.length_append]
      have h2 : n.text.data.toList.length ≤ 100000000 := by rw [Array.length_toList]; exact ht
      omega
theorem shF_len (f : F) (h : okT f) : shL (shF f) ≤ 100000020 * f.sz := by
  induction f with
  | nil => simp [shF, shL]
  | cons n k r hk hr =>
    obtain ⟨h1, h2, _, _, _, h5, h6⟩ := h
    have a := hk h5
    have b := hr h6
    have c := shN_len n (shF k) (fun e => by
      rcases h1 with h | h
      · exact h.2
      · rw [h] at e; exact absurd e (by decide)) h2
    simp only [shF, F.sz]
    rw [shL_cons]
    show (shN n (shF k)).length + 3 + _ ≤ _
    omega
theorem okT_of (f : F) : f.ok → (∀ n ∈ f.flat, rightN n = true) → (∀ n ∈ f.flat, n.text.size ≤ 100000000) → okT f := by
  induction f with
  | nil => intros; trivial
  | cons n k r hk hr =>
    rintro ⟨h1, h2, h3⟩ hR hS
    have hn := hR n (by simp [F.flat])
    have nil_of : ∀ k : F, k.cnt = 0 → k = .nil := fun k h => by
      cases k with
      | nil => rfl
      | cons _ _ _ => simp [F.cnt] at h
    refine ⟨?_, hS n (by simp [F.flat]), ?_, h1, ?_, hk h2 (fun x hx => hR x (by simp [F.flat, hx])) (fun x hx => hS x (by simp [F.flat, hx])), hr h3 (fun x hx => hR x (by simp [F.flat, hx])) (fun x hx => hS x (by simp [F.flat, hx]))⟩
    · unfold rightN at hn
      split at hn
      · rename_i e
        simp only [Bool.and_eq_true, decide_eq_true_eq] at hn
        exact .inl ⟨e, hn.1.1.1, hn.1.1.2⟩
      · split at hn
        · rename_i e; exact .inr e
        · simp at hn
    · intro e1 e2
      unfold rightN at hn
      rw [if_neg (by omega), if_pos e2] at hn
      simp only [Bool.and_eq_true] at hn
      have := hn.2
      unfold conB at this
      rw [if_pos e1, beq_iff_eq] at this
      omega
    · intro e
      unfold rightN at hn
      rw [if_pos e] at hn
      simp only [Bool.and_eq_true, beq_iff_eq] at hn
      exact nil_of k (by have := hn.1.2; omega)
end Go.Proofs.YtncifeeinogcnaaDoor
