/- Contracts of the functions of layer 1 that only reckon with numbers, over the translated program: what each one answers, and that it leaves the world alone. -/
import Derived.Test.YtkmgapieoedelaaRows
import Derived.Test.YtkmgapieoedelaaMath
import Derived.WalkKit
import Derived.ProofKit
import Derived.OpenShut
namespace Go.Proofs.Ytkmgapieoedelaa
open Go.RowKit

theorem ret_int {k : IntKind} {a b : Int} (h : a = b) : Ending.returned (.int k a) = .returned (.int k b) := by rw [h]

end Go.Proofs.Ytkmgapieoedelaa
