/- Texts of this seat, one behind the other: LxLexA, LxLexB, LxLexD, LxViews, LxSlot, LxArith, LxRead. -/
import Derived.Test.YtncifeeinogcnaaGreatDoorKn03
import Derived.Test.YtncifeeinogcnaaGreatDoorRows
import Derived.WalkKit
import Derived.ProofKit
import Derived.Below
import Derived.Deep.OwnRows
import Derived.Test.YtncifeeinogcnaaGreatDoorKn01
import Derived.OpenShut
import Derived.Outline
import Derived.LoopTactic
import Derived.Laws.Rows
import Derived.Laws.BytesArg
import Derived.Laws.RangeAny
/- The mathematics of tokens: what the bytes of a text are as tokens, and the text of tokens; nothing of the program is named here. -/
namespace Go.Proofs.LexMath

abbrev Bs := List UInt8
def iv (c : UInt8) : Int := c.toNat
def low (r : Int) : Bool := decide (97 ≤ r) && decide (r ≤ 122)
def upp (r : Int) : Bool := decide (65 ≤ r) && decide (r ≤ 90)
def ltr (r : Int) : Bool := low r || upp r
def dgt (r : Int) : Bool := decide (48 ≤ r) && decide (r ≤ 57)
def tl (r : Int) : Bool := ltr r || dgt r || (r == 95 || r == 39)
def opr (r : Int) : Bool := r == 33 || r == 36 || r == 37 || r == 38 || r == 42 || r == 43 || r == 45 || r == 47 || r == 58 || r == 60 || r == 61 || r == 62 || r == 63 || r == 64 || r == 94 || r == 124
def pln (r : Int) : Bool := decide (32 ≤ r) && decide (r ≤ 126)

/-- How many bytes at the head are of a class. -/
def run (p : Int → Bool) (l : Bs) : Nat := (l.takeWhile fun c => p (iv c)).length
theorem run_nil (p : Int → Bool) : run p [] = 0 := rfl
theorem run_yes (p : Int → Bool) (c : UInt8) (l : Bs) (h : p (iv c) = true) : run p (c :: l) = run p l + 1 := by simp [run, h]
theorem run_no (p : Int → Bool) (c : UInt8) (l : Bs) (h : p (iv c) = false) : run p (c :: l) = 0 := by simp [run, h]
def keys : List Bs := [[108, 101, 116], [114, 101, 99], [105, 110], [102, 117, 110], [105, 102], [116, 104, 101, 110], [101, 108, 115, 101], [109, 97, 116, 99, 104], [119, 105, 116, 104], [101, 110, 100], [114, 97, 105, 115, 101], [116, 114, 121], [111, 112, 101, 110], [116, 121, 112, 101], [111, 102], [105, 110, 102, 105, 120, 108], [105, 110, 102, 105, 120, 114], [105, 110, 102, 105, 120], [45, 62], [61], [124], [40], [41], [95], [59, 59]]
def key (t : Bs) : Bool := keys.contains t

/-- The byte for which the head of a text stands in a string, and how many bytes that is. -/
def hexv (r : Int) : Int := if 48 ≤ r ∧ r ≤ 57 then r - 48 else if 97 ≤ r ∧ r ≤ 102 then r - 87 else -1
def chr : Bs → Option (UInt8 × Nat)
  | [] => none
  | c :: r =>
    if iv c = 92 then
      match r with
      | [] => none
      | d :: r' =>
        if iv d = 34 ∨ iv d = 92 then some (d, 2)
        else if iv d = 110 then some (10, 2)
        else if iv d = 120 then
          match r' with
          | x :: y :: _ => if 0 ≤ hexv (iv x) ∧ 0 ≤ hexv (iv y) then some (UInt8.ofNat (16 * hexv (iv x) + hexv (iv y)).toNat, 4) else none
          | _ => none
        else none
    else if pln (iv c) then some (c, 1) else none
/-- A string that ends behind its closing sign: its bytes, and how many it takes. -/
def strF : Nat → Bs → Option (Bs × Nat)
  | 0, _ => none
  | _ + 1, [] => none
  | f + 1, c :: r =>
    if iv c = 34 then some ([], 1)
    else match chr (c :: r) with
      | none => none
      | some (b, n) => (strF f ((c :: r).drop n)).map fun x => (b :: x.1, n + x.2)
def str (l : Bs) : Option (Bs × Nat) := strF l.length l
def qbyte (c : UInt8) : Bs :=
  if iv c = 34 ∨ iv c = 92 then [92, c] else if iv c = 10 then [92, 110] else if pln (iv c) then [c]
  else [92, 120, hexd (iv c / 16), hexd (iv c % 16)]
where hexd (n : Int) : UInt8 := UInt8.ofNat (if n < 10 then 48 + n else 87 + n).toNat
def qbody (s : Bs) : Bs := s.flatMap qbyte
def quote (s : Bs) : Bs := 34 :: (qbody s ++ [34])
end Go.Proofs.LexMath
/- The mathematics of tokens, second part: the numbers, one token, all tokens, and what they are when shown, joined and read again; nothing of the program is named here. -/
namespace Go.Proofs.LexMath
open Go.Proofs.YtncifeeinogcnaaGreatDoor.Lx Go.RowKit

def bs (l : Bs) : ByteArray := ⟨l.toArray⟩
theorem bs_list (l : Bs) : (bs l).data.toList = l := by simp [bs]
def shwL (v : Int) : Bs := (shw v).data.toList
def rd : Bs → Int
  | [] => 0
  | c :: r => if iv c = 126 then -val (r.map iv) else val ((c :: r).map iv)
def num? (l : Bs) : Option Int := if -4611686018427387904 ≤ rd l ∧ rd l ≤ 4611686018427387903 ∧ shwL (rd l) = l then some (rd l) else none
structure Tok where
  kind : Int
  text : ByteArray
  num : Int
  at_ : Int
  deriving DecidableEq, Inhabited
inductive One where
  | tok (k : Int) (t : Bs) (v : Int) (n : Nat)
  | err (e : Int)
def wrd (k : Int) (t : Bs) : One := .tok (if key t then 6 else k) t 0 t.length
def one : Bs → One
  | [] => .err 30
  | c :: r =>
    if ltr (iv c) = true then wrd (if low (iv c) then 1 else 2) (c :: r.take (run tl r))
    else if iv c = 126 ∨ dgt (iv c) = true then
      match num? (c :: r.take (run dgt r)) with
      | some v => .tok 3 [] v (run dgt r + 1)
      | none => .err 31
    else if iv c = 34 then
      match str r with
      | some (t, m) => if t.length ≤ 200 then .tok 4 t 0 (m + 1) else .err 32
      | none => .err 32
    else if opr (iv c) = true then wrd 5 (c :: r.take (run opr r))
    else if iv c = 40 ∨ iv c = 41 ∨ iv c = 95 then .tok 6 [c] 0 1
    else if iv c = 59 ∧ r.head? = some 59 then .tok 6 [59, 59] 0 2
    else .err 30
inductive Res where
  | ok (l : List Tok)
  | err (e : Int) (p : Nat)
def Res.pre (acc : List Tok) : Res → Res
  | .ok l => .ok (acc ++ l)
  | .err e p => .err e p
end Go.Proofs.LexMath
/- The mathematics of tokens, fourth part: which tokens may be, their words, and that what is shown is read again. -/
namespace Go.Proofs.LexMath
open Go.Proofs.YtncifeeinogcnaaGreatDoor.Lx Go.RowKit

def isw (first rest : Int → Bool) : Bs → Bool
  | [] => false
  | c :: r => first (iv c) && r.all fun d => rest (iv d)
def Tok.bytes (t : Tok) : Bs := t.text.data.toList
def rightB (t : Tok) : Bool :=
  decide (0 ≤ t.at_) &&
  (if t.kind = 1 then decide (t.num = 0) && isw low tl t.bytes && !key t.bytes
   else if t.kind = 2 then decide (t.num = 0) && isw upp tl t.bytes
   else if t.kind = 3 then t.bytes.isEmpty && decide (wr t.num = t.num)
   else if t.kind = 4 then decide (t.num = 0) && decide (t.bytes.length ≤ 200)
   else if t.kind = 5 then decide (t.num = 0) && isw opr opr t.bytes && !key t.bytes
   else if t.kind = 6 then decide (t.num = 0) && key t.bytes
   else false)
def wordL (t : Tok) : Bs := if t.kind = 3 then shwL t.num else if t.kind = 4 then quote t.bytes else t.bytes
def rest (ts : List Tok) : Bs := ts.flatMap fun u => 32 :: wordL u
theorem isw_cons {p q : Int → Bool} {l : Bs} (h : isw p q l = true) : ∃ c r, l = c :: r ∧ p (iv c) = true ∧ ∀ d ∈ r, q (iv d) = true := by
  cases l with
  | nil => cases h
  | cons c r =>
    simp only [isw, Bool.and_eq_true, List.all_eq_true] at h
    exact ⟨c, r, rfl, h.1, h.2⟩
theorem key_heads (t : Bs) (h : key t = true) : ∃ c r, t = c :: r ∧ ((low (iv c) = true ∧ ∀ d ∈ r, low (iv d) = true) ∨ (opr (iv c) = true ∧ ∀ d ∈ r, opr (iv d) = true) ∨ (t = [40] ∨ t = [41] ∨ t = [95] ∨ t = [59, 59])) := by
  unfold key keys at h
  simp only [List.contains_eq_mem, List.mem_cons, List.not_mem_nil, or_false, decide_eq_true_eq] at h
  rcases h with rfl | rfl | rfl | rfl | rfl | rfl | rfl | rfl | rfl | rfl | rfl | rfl | rfl | rfl | rfl | rfl | rfl | rfl | rfl | rfl | rfl | rfl | rfl | rfl | rfl
  all_goals refine ⟨_, _, rfl, ?_⟩
  all_goals first
    | exact .inl ⟨by decide, by decide⟩
    | exact .inr (.inl ⟨by decide, by decide⟩)
    | exact .inr (.inr (by decide))
theorem low_tl {r : Int} (h : low r = true) : tl r = true := by simp [tl, ltr, h]
end Go.Proofs.LexMath
/- Slices of tokens, as lists, in a world. -/
namespace Go.Proofs.YtncifeeinogcnaaGreatDoor.Lx
open Go.RowKit Go.Proofs.LexMath

def _root_.Go.Proofs.LexMath.Tok.cells (n : Tok) : List Value := [.int .i64 n.kind, .string n.text, .int .i64 n.num, .int .i64 n.at_]
def tokCells (ns : List Tok) : List Value := ns.flatMap Tok.cells
/-- Cells, one behind the other. -/
def CellsIn (w : World) (b off : Nat) (cs : List Value) : Prop := ∀ j u, cs[j]? = some u → w.cell? ⟨b, off + j, none⟩ = some u
/-- A slice of n elements of so many cells each. -/
def SliceAt (w : World) (size : Nat) (v : Value) (n : Nat) (cs : List Value) : Prop :=
  cs.length = n * size ∧ ∃ p cap, v = .slice p n cap ∧ n ≤ cap ∧ cap ≤ maxLen ∧ (n ≠ 0 → ∃ b off, p = some ⟨b, off, none⟩ ∧ b < w.heap.size ∧ CellsIn w b off cs)
def ToksAt (w : World) (v : Value) (ns : List Tok) : Prop := SliceAt w 4 v ns.length (tokCells ns)
theorem length_tokCells (ns : List Tok) : (tokCells ns).length = ns.length * 4 := by
  induction ns with
  | nil => rfl
  | cons n ns ih =>
    unfold tokCells at ih ⊢
    rw [List.flatMap_cons, List.length_append, ih]
    simp [Tok.cells]
    omega
theorem take_get {α : Type} {l : List α} {n j : Nat} {u : α} (h : (l.take n)[j]? = some u) : l[j]? = some u := by
  rw [List.getElem?_take] at h
  split at h
  · exact h
  · simp at h
theorem CellsIn.kept {w w' : World} {b off : Nat} {cs : List Value} (h : CellsIn w b off cs) (e : w'.heap[b]? = w.heap[b]?) : CellsIn w' b off cs :=
  fun j u hj => by rw [World.cell?_of_block (w := w) (w' := w') (a := ⟨b, off + j, none⟩) e]; exact h j u hj
theorem SliceAt.below {w w' : World} {size n : Nat} {v : Value} {cs : List Value} (h : SliceAt w size v n cs) (b : Below w.heap.size w w') : SliceAt w' size v n cs := by
  obtain ⟨h1, p, cap, rfl, h2, h3, h4⟩ := h
  refine ⟨h1, p, cap, rfl, h2, h3, fun hn => ?_⟩
  obtain ⟨bk, off, rfl, hb, hc⟩ := h4 hn
  exact ⟨bk, off, rfl, Nat.lt_of_lt_of_le hb b.size, hc.kept (b.block bk hb)⟩
theorem SliceAt.of_owns {w : World} {base : Nat} {e : TypeId} {size n : Nat} {v : Value} {xs : List Value} (h : w.ownsRow base e size v n xs) : SliceAt w size v n xs := by
  obtain ⟨hl, h⟩ := h
  rcases h with ⟨rfl, rfl⟩ | ⟨g, cap, cur, rfl, hb, hg, hn, hm, hs, ht⟩
  · exact ⟨hl, none, 0, rfl, Nat.le_refl _, by unfold maxLen; omega, fun h => absurd rfl h⟩
  · refine ⟨hl, _, cap, rfl, hn, hm, fun _ => ⟨g, 0, rfl, ?_, ?_⟩⟩
    · exact (Array.getElem?_eq_some_iff.1 hg).1
    · intro j u hj
      rw [← ht] at hj
      have hj' := take_get hj
      simp [World.cell?, hg]
      simpa using hj'
theorem SliceAt.nil (w : World) (size : Nat) : SliceAt w size (.slice none 0 0) 0 [] := ⟨by simp, none, 0, rfl, Nat.le_refl _, by unfold maxLen; omega, fun h => absurd rfl h⟩
theorem ToksAt.below {w w' : World} {v : Value} {ns : List Tok} (h : ToksAt w v ns) (b : Below w.heap.size w w') : ToksAt w' v ns := SliceAt.below h b
end Go.Proofs.YtncifeeinogcnaaGreatDoor.Lx
/- Function values of the lexer. -/
namespace Go.Proofs.YtncifeeinogcnaaGreatDoor.Lx
theorem call63 (vs : Array Value) (w : World) : (callFunc 174 vs).run Tryz.prog w = .ok (.enter 174 vs) w := run_callFunc Tryz.func174 (by kernel_rfl) (by kernel_rfl) vs w
theorem call64 (vs : Array Value) (w : World) : (callFunc 175 vs).run Tryz.prog w = .ok (.enter 175 vs) w := run_callFunc Tryz.func175 (by kernel_rfl) (by kernel_rfl) vs w
theorem call65 (vs : Array Value) (w : World) : (callFunc 176 vs).run Tryz.prog w = .ok (.enter 176 vs) w := run_callFunc Tryz.func176 (by kernel_rfl) (by kernel_rfl) vs w
end Go.Proofs.YtncifeeinogcnaaGreatDoor.Lx
/- Contracts of the functions of layer 1 that only reckon with numbers, over the translated program: what each one answers, and that it leaves the world alone. -/
set_option maxRecDepth 100000
namespace Go.Proofs.YtncifeeinogcnaaGreatDoor.Lx
open Go.RowKit

theorem ret_int {k : IntKind} {a b : Int} (h : a = b) : Ending.returned (.int k a) = .returned (.int k b) := by rw [h]

theorem wrap_any (n : Int) (w : World) :
    Calls Tryz.prog 142 #[.int .i64 n] w fun e w' => e = .returned (.int .i64 (wr n)) ∧ w = w' := by
  go_enter Tryz.func142, Tryz.ntmps142
  go_wp2
  go_ret
  exact ⟨ret_int (wr_shift n), rfl⟩
theorem u64_nonneg (n : Int) : 0 ≤ IntKind.u64.wrap n := by rw [u64w_eq]; unfold u64w; omega
theorem back_any (n : Int) (w : World) (h0 : 0 ≤ n) :
    Calls Tryz.prog 120 #[.int .u64 n] w fun e w' => e = .returned (.int .i64 (wr n)) ∧ w = w' := by
  go_enter Tryz.func120, Tryz.ntmps120
  go_wp2
  all_goals
    go_ret
    exact ⟨ret_int (by unfold wr; omega), rfl⟩
theorem rwrap_any (a : Int) (w : World) :
    Calls Tryz.prog 92 #[.int .i64 a] w fun e w' => e = .returned (.int .i64 (wr a)) ∧ w = w' := by
  go_enter Tryz.func92, Tryz.ntmps92
  go_wp2_with (go_at_call 120; refine (back_any _ _ (u64_nonneg _)).mono ?_; rintro e w' ⟨rfl, rfl⟩)
  go_ret
  exact ⟨ret_int (by rw [u64w_eq, wr_u64w]), rfl⟩
end Go.Proofs.YtncifeeinogcnaaGreatDoor.Lx
/- The contract of word.Read: a text that is the text of a number of the language is read as that number; any other text is refused; nothing that was there is written. -/
namespace Go.Proofs.YtncifeeinogcnaaGreatDoor.Lx
open Go.RowKit

theorem width_pos (s : ByteArray) (pos : Nat) (h : pos < s.size) : 1 ≤ (Utf8.decode s pos).2 := by
  by_cases ha : (s[pos]'h).toNat < 128
  · rw [decode_ascii s pos h ha]
    exact Nat.le_refl _
  · exact (decode_high s pos h (by omega)).2
theorem below_iter (w : World) (s : ByteArray) (pos : Nat) : Below w.heap.size w (w.iter s pos) := (Below.refl _ _).alloc (Nat.le_refl _) _
theorem size_iter (w : World) (s : ByteArray) (pos : Nat) : (w.iter s pos).heap.size = w.heap.size + 1 := by simp [World.iter]
end Go.Proofs.YtncifeeinogcnaaGreatDoor.Lx
