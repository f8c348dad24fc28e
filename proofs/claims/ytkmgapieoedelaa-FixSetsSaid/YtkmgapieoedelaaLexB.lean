/- The mathematics of tokens, second part: the numbers, one token, all tokens, and what they are when shown, joined and read again; nothing of the program is named here. -/
import Derived.Test.YtkmgapieoedelaaDigs
import Derived.Test.YtkmgapieoedelaaLexA
namespace Go.Proofs.LexMath
open Go.Proofs.Ytkmgapieoedelaa Go.RowKit

def bs (l : Bs) : ByteArray := ⟨l.toArray⟩
theorem bs_list (l : Bs) : (bs l).data.toList = l := by simp [bs]
def shwL (v : Int) : Bs := (shw v).data.toList
def rd : Bs → Int
  | [] => 0
  | c :: r => if iv c = 126 then -val (r.map iv) else val ((c :: r).map iv)
def num? (l : Bs) : Option Int := if -4611686018427387904 ≤ rd l ∧ rd l ≤ 4611686018427387903 ∧ shwL (rd l) = l then some (rd l) else none
structure Tok where
  kind : Int
  text : ByteArray
  num : Int
  at_ : Int
  deriving DecidableEq, Inhabited
inductive One where
  | tok (k : Int) (t : Bs) (v : Int) (n : Nat)
  | err (e : Int)
def wrd (k : Int) (t : Bs) : One := .tok (if key t then 6 else k) t 0 t.length
def one : Bs → One
  | [] => .err 30
  | c :: r =>
    if ltr (iv c) = true then wrd (if low (iv c) then 1 else 2) (c :: r.take (run tl r))
    else if iv c = 126 ∨ dgt (iv c) = true then
      match num? (c :: r.take (run dgt r)) with
      | some v => .tok 3 [] v (run dgt r + 1)
      | none => .err 31
    else if iv c = 34 then
      match str r with
      | some (t, m) => if t.length ≤ 200 then .tok 4 t 0 (m + 1) else .err 32
      | none => .err 32
    else if opr (iv c) = true then wrd 5 (c :: r.take (run opr r))
    else if iv c = 40 ∨ iv c = 41 ∨ iv c = 95 then .tok 6 [c] 0 1
    else if iv c = 59 ∧ r.head? = some 59 then .tok 6 [59, 59] 0 2
    else .err 30
def skp : Bool → Bs → Nat
  | _, [] => 0
  | true, c :: r => if iv c = 10 then skp false r + 1 else skp true r + 1
  | false, c :: r => if iv c = 32 ∨ iv c = 10 then skp false r + 1 else if iv c = 35 then skp true r + 1 else 0
inductive Res where
  | ok (l : List Tok)
  | err (e : Int) (p : Nat)
def Res.pre (acc : List Tok) : Res → Res
  | .ok l => .ok (acc ++ l)
  | .err e p => .err e p
def lexF : Nat → Nat → Nat → Bs → Res
  | 0, _, _, _ => .ok []
  | f + 1, p, n, l =>
    match l.drop (skp false l) with
    | [] => .ok []
    | c :: r =>
      match one (c :: r) with
      | .err e => .err e (p + skp false l)
      | .tok kd t v m =>
        if n = 4000 then .err 33 (p + skp false l)
        else (lexF f (p + skp false l + m) (n + 1) ((c :: r).drop m)).pre [⟨kd, bs t, v, ((p + skp false l : Nat) : Int)⟩]
def lexAt (p n : Nat) (l : Bs) : Res := lexF (l.length + 1) p n l
def lex (l : Bs) : Res := lexAt 0 0 l

end Go.Proofs.LexMath
