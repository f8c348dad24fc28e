/- Plain lists of digits: the decimal digits of a number from 0 on, as bytes, and the number that a list of digits is. No walk here. -/
import Derived.Test.YtkmgapieoedelaaMath
import Derived.Laws.BytesArg
namespace Go.Proofs.Ytkmgapieoedelaa

/-- The decimal digits of n, at most f of them, each as its byte. -/
def dg : Nat → Int → List Int
  | 0, _ => []
  | f + 1, n => if n < 10 then [48 + n] else dg f (n / 10) ++ [48 + n % 10]

def val (l : List Int) : Int := l.foldl (fun m d => 10 * m + (d - 48)) 0

/-- The text of a number of the language, as the list of its bytes. -/
def shl (v : Int) : List Int := if v < 0 then 126 :: dg 19 (-v) else dg 19 v
def shw (v : Int) : ByteArray := strOfNums (shl v)
end Go.Proofs.Ytkmgapieoedelaa
