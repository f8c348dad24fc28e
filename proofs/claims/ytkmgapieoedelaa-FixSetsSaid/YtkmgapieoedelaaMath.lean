/- Plain arithmetic for layer 1 (word): 'wr n', the number of the language that differs from n by a multiple of two to the 63, and what wrapping of 64 bits does to it. No walk here. -/
import Derived.RowKit
import Derived.IntWalk
namespace Go.Proofs.Ytkmgapieoedelaa
open Go.RowKit

def wr (n : Int) : Int := (n + 4611686018427387904) % 9223372036854775808 - 4611686018427387904

end Go.Proofs.Ytkmgapieoedelaa
