/- What a token at a place is, class by class, as the program's token and the document's one say it. -/
import Derived.Test.YtkmgapieoedelaaBytes
import Derived.Test.YtkmgapieoedelaaIsWord
namespace Go.Proofs.Ytkmgapieoedelaa
open Go.RowKit Go.Proofs.LexMath

theorem opr_wide : Wide opr := .inr fun r hr => by simp [opr]; omega
end Go.Proofs.Ytkmgapieoedelaa
