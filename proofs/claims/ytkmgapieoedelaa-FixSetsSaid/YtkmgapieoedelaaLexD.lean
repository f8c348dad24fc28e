/- The mathematics of tokens, fourth part: which tokens may be, their words, and that what is shown is read again. -/
import Derived.Test.YtkmgapieoedelaaLexB
namespace Go.Proofs.LexMath
open Go.Proofs.Ytkmgapieoedelaa Go.RowKit

def isw (first rest : Int → Bool) : Bs → Bool
  | [] => false
  | c :: r => first (iv c) && r.all fun d => rest (iv d)
def Tok.bytes (t : Tok) : Bs := t.text.data.toList
def rightB (t : Tok) : Bool :=
  decide (0 ≤ t.at_) &&
  (if t.kind = 1 then decide (t.num = 0) && isw low tl t.bytes && !key t.bytes
   else if t.kind = 2 then decide (t.num = 0) && isw upp tl t.bytes
   else if t.kind = 3 then t.bytes.isEmpty && decide (wr t.num = t.num)
   else if t.kind = 4 then decide (t.num = 0) && decide (t.bytes.length ≤ 200)
   else if t.kind = 5 then decide (t.num = 0) && isw opr opr t.bytes && !key t.bytes
   else if t.kind = 6 then decide (t.num = 0) && key t.bytes
   else false)
def wordL (t : Tok) : Bs := if t.kind = 3 then shwL t.num else if t.kind = 4 then quote t.bytes else t.bytes
def rest (ts : List Tok) : Bs := ts.flatMap fun u => 32 :: wordL u
end Go.Proofs.LexMath
