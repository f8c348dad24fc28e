/- Tokens: mathematics, and small numbers. -/
import Derived.RowKit
import Derived.IntWalk
import Derived.Test.YtlalnmefppbebaaRows
import Derived.WalkKit
import Derived.ProofKit
import Derived.OpenShut
import Derived.Laws.BytesArg
import Derived.Outline
import Derived.Below
import Derived.LoopTactic
import Derived.Laws.Rows
import Derived.Laws.RangeAny
/- Plain arithmetic for layer 1 (word): 'wr n', the number of the language that differs from n by a multiple of two to the 63, and what wrapping of 64 bits does to it. No walk here. -/
namespace Go.Proofs.Ytlalnmefppbebaa.Lx
open Go.RowKit

def wr (n : Int) : Int := (n + 4611686018427387904) % 9223372036854775808 - 4611686018427387904

def u64w (n : Int) : Int := n % 18446744073709551616

theorem wrap64_eq (n : Int) : wrap64 n = (n + 9223372036854775808) % 18446744073709551616 - 9223372036854775808 := by
  unfold wrap64; omega
theorem wr_shift (n : Int) : wrap64 (n * 2) / 2 = wr n := by rw [wrap64_eq]; unfold wr; omega
theorem wr_u64w (n : Int) : wr (u64w n) = wr n := by unfold u64w wr; omega
theorem u64w_eq (n : Int) : IntKind.u64.wrap n = u64w n := by unfold u64w; simp [IntKind.wrap, IntKind.bits, IntKind.signed]
end Go.Proofs.Ytlalnmefppbebaa.Lx
/- Contracts of the functions of layer 1 that only reckon with numbers, over the translated program: what each one answers, and that it leaves the world alone. -/
namespace Go.Proofs.Ytlalnmefppbebaa.Lx
open Go.RowKit

theorem ret_int {k : IntKind} {a b : Int} (h : a = b) : Ending.returned (.int k a) = .returned (.int k b) := by rw [h]

theorem wrap_any (n : Int) (w : World) :
    Calls Try.prog 60 #[.int .i64 n] w fun e w' => e = .returned (.int .i64 (wr n)) ∧ w = w' := by
  go_enter Try.func60, Try.ntmps60
  go_wp2
  go_ret
  exact ⟨ret_int (wr_shift n), rfl⟩
theorem u64_nonneg (n : Int) : 0 ≤ IntKind.u64.wrap n := by rw [u64w_eq]; unfold u64w; omega
theorem back_any (n : Int) (w : World) (h0 : 0 ≤ n) :
    Calls Try.prog 85 #[.int .u64 n] w fun e w' => e = .returned (.int .i64 (wr n)) ∧ w = w' := by
  go_enter Try.func85, Try.ntmps85
  go_wp2
  all_goals
    go_ret
    exact ⟨ret_int (by unfold wr; omega), rfl⟩
theorem rwrap_any (a : Int) (w : World) :
    Calls Try.prog 65 #[.int .i64 a] w fun e w' => e = .returned (.int .i64 (wr a)) ∧ w = w' := by
  go_enter Try.func65, Try.ntmps65
  go_wp2_with (go_at_call 85; refine (back_any _ _ (u64_nonneg _)).mono ?_; rintro e w' ⟨rfl, rfl⟩)
  go_ret
  exact ⟨ret_int (by rw [u64w_eq, wr_u64w]), rfl⟩
end Go.Proofs.Ytlalnmefppbebaa.Lx
/- Plain lists of digits: the decimal digits of a number from 0 on, as bytes, and the number that a list of digits is. No walk here. -/
namespace Go.Proofs.Ytlalnmefppbebaa.Lx

/-- The decimal digits of n, at most f of them, each as its byte. -/
def dg : Nat → Int → List Int
  | 0, _ => []
  | f + 1, n => if n < 10 then [48 + n] else dg f (n / 10) ++ [48 + n % 10]

def val (l : List Int) : Int := l.foldl (fun m d => 10 * m + (d - 48)) 0

/-- The text of a number of the language, as the list of its bytes. -/
def shl (v : Int) : List Int := if v < 0 then 126 :: dg 19 (-v) else dg 19 v
def shw (v : Int) : ByteArray := strOfNums (shl v)
end Go.Proofs.Ytlalnmefppbebaa.Lx
/- The contracts of word.digits and word.Show: the decimal digits of a number from 0 to two to the 62, and the text of any number; nothing that was there is written. -/
namespace Go.Proofs.Ytlalnmefppbebaa.Lx
open Go.RowKit

end Go.Proofs.Ytlalnmefppbebaa.Lx
/- The contract of word.Read: a text that is the text of a number of the language is read as that number; any other text is refused; nothing that was there is written. -/
namespace Go.Proofs.Ytlalnmefppbebaa.Lx
open Go.RowKit

theorem width_pos (s : ByteArray) (pos : Nat) (h : pos < s.size) : 1 ≤ (Utf8.decode s pos).2 := by
  by_cases ha : (s[pos]'h).toNat < 128
  · rw [decode_ascii s pos h ha]
    exact Nat.le_refl _
  · exact (decode_high s pos h (by omega)).2
theorem below_iter (w : World) (s : ByteArray) (pos : Nat) : Below w.heap.size w (w.iter s pos) := (Below.refl _ _).alloc (Nat.le_refl _) _
theorem size_iter (w : World) (s : ByteArray) (pos : Nat) : (w.iter s pos).heap.size = w.heap.size + 1 := by simp [World.iter]
end Go.Proofs.Ytlalnmefppbebaa.Lx
/- The mathematics of tokens: what the bytes of a text are as tokens, and the text of tokens; nothing of the program is named here. -/
namespace Go.Proofs.LexMath

abbrev Bs := List UInt8
def iv (c : UInt8) : Int := c.toNat
def low (r : Int) : Bool := decide (97 ≤ r) && decide (r ≤ 122)
def upp (r : Int) : Bool := decide (65 ≤ r) && decide (r ≤ 90)
def ltr (r : Int) : Bool := low r || upp r
def dgt (r : Int) : Bool := decide (48 ≤ r) && decide (r ≤ 57)
def tl (r : Int) : Bool := ltr r || dgt r || (r == 95 || r == 39)
def opr (r : Int) : Bool := r == 33 || r == 36 || r == 37 || r == 38 || r == 42 || r == 43 || r == 45 || r == 47 || r == 58 || r == 60 || r == 61 || r == 62 || r == 63 || r == 64 || r == 94 || r == 124
def pln (r : Int) : Bool := decide (32 ≤ r) && decide (r ≤ 126)

/-- How many bytes at the head are of a class. -/
def run (p : Int → Bool) (l : Bs) : Nat := (l.takeWhile fun c => p (iv c)).length
theorem run_nil (p : Int → Bool) : run p [] = 0 := rfl
theorem run_yes (p : Int → Bool) (c : UInt8) (l : Bs) (h : p (iv c) = true) : run p (c :: l) = run p l + 1 := by simp [run, h]
theorem run_no (p : Int → Bool) (c : UInt8) (l : Bs) (h : p (iv c) = false) : run p (c :: l) = 0 := by simp [run, h]
def keys : List Bs := [[108, 101, 116], [114, 101, 99], [105, 110], [102, 117, 110], [105, 102], [116, 104, 101, 110], [101, 108, 115, 101], [109, 97, 116, 99, 104], [119, 105, 116, 104], [101, 110, 100], [114, 97, 105, 115, 101], [116, 114, 121], [111, 112, 101, 110], [116, 121, 112, 101], [111, 102], [105, 110, 102, 105, 120, 108], [105, 110, 102, 105, 120, 114], [105, 110, 102, 105, 120], [45, 62], [61], [124], [40], [41], [95], [59, 59]]
def key (t : Bs) : Bool := keys.contains t

/-- The byte for which the head of a text stands in a string, and how many bytes that is. -/
def hexv (r : Int) : Int := if 48 ≤ r ∧ r ≤ 57 then r - 48 else if 97 ≤ r ∧ r ≤ 102 then r - 87 else -1
def chr : Bs → Option (UInt8 × Nat)
  | [] => none
  | c :: r =>
    if iv c = 92 then
      match r with
      | [] => none
      | d :: r' =>
        if iv d = 34 ∨ iv d = 92 then some (d, 2)
        else if iv d = 110 then some (10, 2)
        else if iv d = 120 then
          match r' with
          | x :: y :: _ => if 0 ≤ hexv (iv x) ∧ 0 ≤ hexv (iv y) then some (UInt8.ofNat (16 * hexv (iv x) + hexv (iv y)).toNat, 4) else none
          | _ => none
        else none
    else if pln (iv c) then some (c, 1) else none
/-- A string that ends behind its closing sign: its bytes, and how many it takes. -/
def strF : Nat → Bs → Option (Bs × Nat)
  | 0, _ => none
  | _ + 1, [] => none
  | f + 1, c :: r =>
    if iv c = 34 then some ([], 1)
    else match chr (c :: r) with
      | none => none
      | some (b, n) => (strF f ((c :: r).drop n)).map fun x => (b :: x.1, n + x.2)
def str (l : Bs) : Option (Bs × Nat) := strF l.length l
def qbyte (c : UInt8) : Bs :=
  if iv c = 34 ∨ iv c = 92 then [92, c] else if iv c = 10 then [92, 110] else if pln (iv c) then [c]
  else [92, 120, hexd (iv c / 16), hexd (iv c % 16)]
where hexd (n : Int) : UInt8 := UInt8.ofNat (if n < 10 then 48 + n else 87 + n).toNat
def qbody (s : Bs) : Bs := s.flatMap qbyte
def quote (s : Bs) : Bs := 34 :: (qbody s ++ [34])
end Go.Proofs.LexMath
/- The mathematics of tokens, second part: the numbers, one token, all tokens, and what they are when shown, joined and read again; nothing of the program is named here. -/
namespace Go.Proofs.LexMath
open Go.Proofs.Ytlalnmefppbebaa.Lx Go.RowKit

def bs (l : Bs) : ByteArray := ⟨l.toArray⟩
theorem bs_list (l : Bs) : (bs l).data.toList = l := by simp [bs]
def shwL (v : Int) : Bs := (shw v).data.toList
def rd : Bs → Int
  | [] => 0
  | c :: r => if iv c = 126 then -val (r.map iv) else val ((c :: r).map iv)
def num? (l : Bs) : Option Int := if -4611686018427387904 ≤ rd l ∧ rd l ≤ 4611686018427387903 ∧ shwL (rd l) = l then some (rd l) else none
structure Tok where
  kind : Int
  text : ByteArray
  num : Int
  at_ : Int
  deriving DecidableEq, Inhabited
inductive One where
  | tok (k : Int) (t : Bs) (v : Int) (n : Nat)
  | err (e : Int)
def wrd (k : Int) (t : Bs) : One := .tok (if key t then 6 else k) t 0 t.length
def one : Bs → One
  | [] => .err 30
  | c :: r =>
    if ltr (iv c) = true then wrd (if low (iv c) then 1 else 2) (c :: r.take (run tl r))
    else if iv c = 126 ∨ dgt (iv c) = true then
      match num? (c :: r.take (run dgt r)) with
      | some v => .tok 3 [] v (run dgt r + 1)
      | none => .err 31
    else if iv c = 34 then
      match str r with
      | some (t, m) => if t.length ≤ 200 then .tok 4 t 0 (m + 1) else .err 32
      | none => .err 32
    else if opr (iv c) = true then wrd 5 (c :: r.take (run opr r))
    else if iv c = 40 ∨ iv c = 41 ∨ iv c = 95 then .tok 6 [c] 0 1
    else if iv c = 59 ∧ r.head? = some 59 then .tok 6 [59, 59] 0 2
    else .err 30
def skp : Bool → Bs → Nat
  | _, [] => 0
  | true, c :: r => if iv c = 10 then skp false r + 1 else skp true r + 1
  | false, c :: r => if iv c = 32 ∨ iv c = 10 then skp false r + 1 else if iv c = 35 then skp true r + 1 else 0
inductive Res where
  | ok (l : List Tok)
  | err (e : Int) (p : Nat)
def Res.pre (acc : List Tok) : Res → Res
  | .ok l => .ok (acc ++ l)
  | .err e p => .err e p
def lexF : Nat → Nat → Nat → Bs → Res
  | 0, _, _, _ => .ok []
  | f + 1, p, n, l =>
    match l.drop (skp false l) with
    | [] => .ok []
    | c :: r =>
      match one (c :: r) with
      | .err e => .err e (p + skp false l)
      | .tok kd t v m =>
        if n = 4000 then .err 33 (p + skp false l)
        else (lexF f (p + skp false l + m) (n + 1) ((c :: r).drop m)).pre [⟨kd, bs t, v, ((p + skp false l : Nat) : Int)⟩]
def lexAt (p n : Nat) (l : Bs) : Res := lexF (l.length + 1) p n l
def lex (l : Bs) : Res := lexAt 0 0 l

end Go.Proofs.LexMath
/- The mathematics of tokens, fourth part: which tokens may be, their words, and that what is shown is read again. -/
namespace Go.Proofs.LexMath
open Go.Proofs.Ytlalnmefppbebaa.Lx Go.RowKit

def isw (first rest : Int → Bool) : Bs → Bool
  | [] => false
  | c :: r => first (iv c) && r.all fun d => rest (iv d)
def Tok.bytes (t : Tok) : Bs := t.text.data.toList
def rightB (t : Tok) : Bool :=
  decide (0 ≤ t.at_) &&
  (if t.kind = 1 then decide (t.num = 0) && isw low tl t.bytes && !key t.bytes
   else if t.kind = 2 then decide (t.num = 0) && isw upp tl t.bytes
   else if t.kind = 3 then t.bytes.isEmpty && decide (wr t.num = t.num)
   else if t.kind = 4 then decide (t.num = 0) && decide (t.bytes.length ≤ 200)
   else if t.kind = 5 then decide (t.num = 0) && isw opr opr t.bytes && !key t.bytes
   else if t.kind = 6 then decide (t.num = 0) && key t.bytes
   else false)
def wordL (t : Tok) : Bs := if t.kind = 3 then shwL t.num else if t.kind = 4 then quote t.bytes else t.bytes
def rest (ts : List Tok) : Bs := ts.flatMap fun u => 32 :: wordL u
theorem isw_cons {p q : Int → Bool} {l : Bs} (h : isw p q l = true) : ∃ c r, l = c :: r ∧ p (iv c) = true ∧ ∀ d ∈ r, q (iv d) = true := by
  cases l with
  | nil => cases h
  | cons c r =>
    simp only [isw, Bool.and_eq_true, List.all_eq_true] at h
    exact ⟨c, r, rfl, h.1, h.2⟩
theorem key_heads (t : Bs) (h : key t = true) : ∃ c r, t = c :: r ∧ ((low (iv c) = true ∧ ∀ d ∈ r, low (iv d) = true) ∨ (opr (iv c) = true ∧ ∀ d ∈ r, opr (iv d) = true) ∨ (t = [40] ∨ t = [41] ∨ t = [95] ∨ t = [59, 59])) := by
  unfold key keys at h
  simp only [List.contains_eq_mem, List.mem_cons, List.not_mem_nil, or_false, decide_eq_true_eq] at h
  rcases h with rfl | rfl | rfl | rfl | rfl | rfl | rfl | rfl | rfl | rfl | rfl | rfl | rfl | rfl | rfl | rfl | rfl | rfl | rfl | rfl | rfl | rfl | rfl | rfl | rfl
  all_goals refine ⟨_, _, rfl, ?_⟩
  all_goals first
    | exact .inl ⟨by decide, by decide⟩
    | exact .inr (.inl ⟨by decide, by decide⟩)
    | exact .inr (.inr (by decide))
theorem low_tl {r : Int} (h : low r = true) : tl r = true := by simp [tl, ltr, h]
end Go.Proofs.LexMath
