/-
  No cell of these rows narrows 'for every input' (looked for: loops, veiled, ifaces, maps, wideKeys, modest, calm, conditions, laid).
  DERIVED. THE GIVEN ROWS OF THIS SEAT. 6 by the template 'for every input the law returns true; each argument reads behind the call as it read before'; 0 by the template 'total and deterministic' (their statements: YtlalnmefppbebaaTotals.lean).
  GIVEN WITH THE SEED: the statements are not yours to turn. If you find one false, say at which input.
  Laid BY PROGRAM, IN A SANDBOX (cutbox-rows.mjs): the forced cells as the released guide's own fill.sh prints them over the translation 8ed8c2dbb3ed145c… (all of the seat's roots in one cut). By AI agents, Wed Nov 11 2026. No macro, syntax, notation, axiom, sorry.
-/
import Derived.Test.YtlalnmefppbebaaChecked
import GoSem.Claim
import GoSem.ClaimJoined
import GoSem.ClaimMapViews
import Derived.JoinedTies
import Derived.KernelRfl
namespace Go.Proofs.Ytlalnmefppbebaa
/- THE CELL 'sum', in the pinned program and in every row, IS THE sha256 OF THE DUMP (.gsa) THAT YtlalnmefppbebaaProg.lean LOADS. Nothing in Lean hashes anything: it is a label: what it is worth is what the hold of that sum in a sandbox is worth. -/
noncomputable def Try.pinned : Pinned := { name := "ytlalnmefppbebaa", sum := "8ed8c2dbb3ed145c6153fbc0ce541c1d4bf6c374544b9591de654ced9d918b3e", checked := Try.checked }
namespace Rows
def none {H : Type} : Left H := { results := [], args := [] }

/-- 'triglyphlaw06.SynChecks': WHATEVER THE INPUT: true; the input reads as it did. -/
def synChecksSpec : ChangeSpec := { name := "synChecks", fn := fun _ => fun
  | [d1, d2] => { results := [.lit (.bool true)], args := [d1, d2] }
  | _ => none }
def synChecksRow : OpenClaim := { program := "ytlalnmefppbebaa", sum := "8ed8c2dbb3ed145c6153fbc0ce541c1d4bf6c374544b9591de654ced9d918b3e", func := "triglyph/triglyphlaw06.SynChecks", spec := "synChecks", unfollowed := true, recurses := true, apart := false }
def SynChecksSaid : Prop := synChecksRow.holds Try.pinned (OpenSpec.ofChange synChecksSpec)

/-- ITS FALSE NEIGHBOUR: 'it returns false'. Refute it at one input. -/
def synChecksWrong : ChangeSpec := { name := "synChecks", fn := fun _ => fun
  | [d1, d2] => { results := [.lit (.bool false)], args := [d1, d2] }
  | _ => none }
def SynChecksWrongFalsely : Prop := synChecksRow.holds Try.pinned (OpenSpec.ofChange synChecksWrong)

/-- 'triglyphlaw06.SynFrees': WHATEVER THE INPUT: true; the input reads as it did. -/
def synFreesSpec : ChangeSpec := { name := "synFrees", fn := fun _ => fun
  | [d] => { results := [.lit (.bool true)], args := [d] }
  | _ => none }
def synFreesRow : OpenClaim := { program := "ytlalnmefppbebaa", sum := "8ed8c2dbb3ed145c6153fbc0ce541c1d4bf6c374544b9591de654ced9d918b3e", func := "triglyph/triglyphlaw06.SynFrees", spec := "synFrees", unfollowed := true, recurses := true, apart := false }
def SynFreesSaid : Prop := synFreesRow.holds Try.pinned (OpenSpec.ofChange synFreesSpec)

/-- ITS FALSE NEIGHBOUR: 'it returns false'. Refute it at one input. -/
def synFreesWrong : ChangeSpec := { name := "synFrees", fn := fun _ => fun
  | [d] => { results := [.lit (.bool false)], args := [d] }
  | _ => none }
def SynFreesWrongFalsely : Prop := synFreesRow.holds Try.pinned (OpenSpec.ofChange synFreesWrong)

/-- 'triglyphlaw06.SynParts': WHATEVER THE INPUT: true; the input reads as it did. -/
def synPartsSpec : ChangeSpec := { name := "synParts", fn := fun _ => fun
  | [d1, d2] => { results := [.lit (.bool true)], args := [d1, d2] }
  | _ => none }
def synPartsRow : OpenClaim := { program := "ytlalnmefppbebaa", sum := "8ed8c2dbb3ed145c6153fbc0ce541c1d4bf6c374544b9591de654ced9d918b3e", func := "triglyph/triglyphlaw06.SynParts", spec := "synParts", unfollowed := true, recurses := true, apart := false }
def SynPartsSaid : Prop := synPartsRow.holds Try.pinned (OpenSpec.ofChange synPartsSpec)

/-- ITS FALSE NEIGHBOUR: 'it returns false'. Refute it at one input. -/
def synPartsWrong : ChangeSpec := { name := "synParts", fn := fun _ => fun
  | [d1, d2] => { results := [.lit (.bool false)], args := [d1, d2] }
  | _ => none }
def SynPartsWrongFalsely : Prop := synPartsRow.holds Try.pinned (OpenSpec.ofChange synPartsWrong)

/-- 'triglyphlaw06.SynFuns': WHATEVER THE INPUT: true; the input reads as it did. -/
def synFunsSpec : ChangeSpec := { name := "synFuns", fn := fun _ => fun
  | [d1, d2] => { results := [.lit (.bool true)], args := [d1, d2] }
  | _ => none }
def synFunsRow : OpenClaim := { program := "ytlalnmefppbebaa", sum := "8ed8c2dbb3ed145c6153fbc0ce541c1d4bf6c374544b9591de654ced9d918b3e", func := "triglyph/triglyphlaw06.SynFuns", spec := "synFuns", unfollowed := true, recurses := true, apart := false }
def SynFunsSaid : Prop := synFunsRow.holds Try.pinned (OpenSpec.ofChange synFunsSpec)

/-- ITS FALSE NEIGHBOUR: 'it returns false'. Refute it at one input. -/
def synFunsWrong : ChangeSpec := { name := "synFuns", fn := fun _ => fun
  | [d1, d2] => { results := [.lit (.bool false)], args := [d1, d2] }
  | _ => none }
def SynFunsWrongFalsely : Prop := synFunsRow.holds Try.pinned (OpenSpec.ofChange synFunsWrong)

/-- 'triglyphlaw06.SynPuts': WHATEVER THE INPUT: true; the input reads as it did. -/
def synPutsSpec : ChangeSpec := { name := "synPuts", fn := fun _ => fun
  | [d1, d2, d3] => { results := [.lit (.bool true)], args := [d1, d2, d3] }
  | _ => none }
def synPutsRow : OpenClaim := { program := "ytlalnmefppbebaa", sum := "8ed8c2dbb3ed145c6153fbc0ce541c1d4bf6c374544b9591de654ced9d918b3e", func := "triglyph/triglyphlaw06.SynPuts", spec := "synPuts", unfollowed := true, recurses := true, apart := false }
def SynPutsSaid : Prop := synPutsRow.holds Try.pinned (OpenSpec.ofChange synPutsSpec)

/-- ITS FALSE NEIGHBOUR: 'it returns false'. Refute it at one input. -/
def synPutsWrong : ChangeSpec := { name := "synPuts", fn := fun _ => fun
  | [d1, d2, d3] => { results := [.lit (.bool false)], args := [d1, d2, d3] }
  | _ => none }
def SynPutsWrongFalsely : Prop := synPutsRow.holds Try.pinned (OpenSpec.ofChange synPutsWrong)

/-- 'triglyphlaw06.SynNames': WHATEVER THE INPUT: true; the input reads as it did. -/
def synNamesSpec : ChangeSpec := { name := "synNames", fn := fun _ => fun
  | [d] => { results := [.lit (.bool true)], args := [d] }
  | _ => none }
def synNamesRow : OpenClaim := { program := "ytlalnmefppbebaa", sum := "8ed8c2dbb3ed145c6153fbc0ce541c1d4bf6c374544b9591de654ced9d918b3e", func := "triglyph/triglyphlaw06.SynNames", spec := "synNames", unfollowed := true, recurses := true, apart := false }
def SynNamesSaid : Prop := synNamesRow.holds Try.pinned (OpenSpec.ofChange synNamesSpec)

/-- ITS FALSE NEIGHBOUR: 'it returns false'. Refute it at one input. -/
def synNamesWrong : ChangeSpec := { name := "synNames", fn := fun _ => fun
  | [d] => { results := [.lit (.bool false)], args := [d] }
  | _ => none }
def SynNamesWrongFalsely : Prop := synNamesRow.holds Try.pinned (OpenSpec.ofChange synNamesWrong)

/- THE SECOND FORM. 'bulk': how many values and letters a reading holds, each counted each time it is reached (what is shared counts as often as it is met; a slice's spare places count too). A statement '..UptoSaid' is the law's where the arguments, and the package variables that the reading takes, are together of bulk at most 1048576: NARROWER than '..Said'. Prove '..Said' where nothing that the law and all that it calls make is longer than what came in: it says more and counts as full. Else prove '..UptoSaid'. A law counts once. -/
mutual
def uptoBulk {H : Type} : DataW H → Nat
  | .lit (.string bytes) => bytes.length + 1
  | .lit _ => 1
  | .nil => 1
  | .ptr d => uptoBulk d + 1
  | .slice elems spare => uptoBulkAll elems + uptoBulkAll spare + 1
  | .agg parts => uptoBulkAll parts + 1
  | .iface _ d => uptoBulk d + 1
  | .map entries => uptoBulkEntries entries + 1
  | .held _ => 1
def uptoBulkAll {H : Type} : List (DataW H) → Nat
  | [] => 0
  | d :: r => uptoBulk d + uptoBulkAll r
def uptoBulkEntries {H : Type} : List (Lit × DataW H) → Nat
  | [] => 0
  | x :: r => uptoBulkEntry x + uptoBulkEntries r
def uptoBulkEntry {H : Type} : Lit × DataW H → Nat
  | (.string bytes, d) => bytes.length + uptoBulk d + 1
  | (_, d) => uptoBulk d + 1
 end
def uptoSmall : (H : Type) → List (DataW H) → Bool := fun _ ds => decide (uptoBulkAll ds ≤ 1048576)
def OpenSpec.upto (s : _root_.Go.ChangeSpec) : _root_.Go.OpenSpec := { _root_.Go.OpenSpec.ofChange s with cond := some uptoSmall }

/-- 'triglyphlaw06.SynChecks', WHERE WHAT IT READS IS OF BULK AT MOST 1048576: true; the input reads as it did. -/
def synChecksUptoRow : OpenClaim := { program := "ytlalnmefppbebaa", sum := "8ed8c2dbb3ed145c6153fbc0ce541c1d4bf6c374544b9591de654ced9d918b3e", func := "triglyph/triglyphlaw06.SynChecks", spec := "synChecks", unfollowed := true, recurses := true, apart := false, narrowed := true }
def SynChecksUptoSaid : Prop := synChecksUptoRow.holds Try.pinned (OpenSpec.upto synChecksSpec)

/-- 'triglyphlaw06.SynFrees', WHERE WHAT IT READS IS OF BULK AT MOST 1048576: true; the input reads as it did. -/
def synFreesUptoRow : OpenClaim := { program := "ytlalnmefppbebaa", sum := "8ed8c2dbb3ed145c6153fbc0ce541c1d4bf6c374544b9591de654ced9d918b3e", func := "triglyph/triglyphlaw06.SynFrees", spec := "synFrees", unfollowed := true, recurses := true, apart := false, narrowed := true }
def SynFreesUptoSaid : Prop := synFreesUptoRow.holds Try.pinned (OpenSpec.upto synFreesSpec)

/-- 'triglyphlaw06.SynParts', WHERE WHAT IT READS IS OF BULK AT MOST 1048576: true; the input reads as it did. -/
def synPartsUptoRow : OpenClaim := { program := "ytlalnmefppbebaa", sum := "8ed8c2dbb3ed145c6153fbc0ce541c1d4bf6c374544b9591de654ced9d918b3e", func := "triglyph/triglyphlaw06.SynParts", spec := "synParts", unfollowed := true, recurses := true, apart := false, narrowed := true }
def SynPartsUptoSaid : Prop := synPartsUptoRow.holds Try.pinned (OpenSpec.upto synPartsSpec)

/-- 'triglyphlaw06.SynFuns', WHERE WHAT IT READS IS OF BULK AT MOST 1048576: true; the input reads as it did. -/
def synFunsUptoRow : OpenClaim := { program := "ytlalnmefppbebaa", sum := "8ed8c2dbb3ed145c6153fbc0ce541c1d4bf6c374544b9591de654ced9d918b3e", func := "triglyph/triglyphlaw06.SynFuns", spec := "synFuns", unfollowed := true, recurses := true, apart := false, narrowed := true }
def SynFunsUptoSaid : Prop := synFunsUptoRow.holds Try.pinned (OpenSpec.upto synFunsSpec)

/-- 'triglyphlaw06.SynPuts', WHERE WHAT IT READS IS OF BULK AT MOST 1048576: true; the input reads as it did. -/
def synPutsUptoRow : OpenClaim := { program := "ytlalnmefppbebaa", sum := "8ed8c2dbb3ed145c6153fbc0ce541c1d4bf6c374544b9591de654ced9d918b3e", func := "triglyph/triglyphlaw06.SynPuts", spec := "synPuts", unfollowed := true, recurses := true, apart := false, narrowed := true }
def SynPutsUptoSaid : Prop := synPutsUptoRow.holds Try.pinned (OpenSpec.upto synPutsSpec)

/-- 'triglyphlaw06.SynNames', WHERE WHAT IT READS IS OF BULK AT MOST 1048576: true; the input reads as it did. -/
def synNamesUptoRow : OpenClaim := { program := "ytlalnmefppbebaa", sum := "8ed8c2dbb3ed145c6153fbc0ce541c1d4bf6c374544b9591de654ced9d918b3e", func := "triglyph/triglyphlaw06.SynNames", spec := "synNames", unfollowed := true, recurses := true, apart := false, narrowed := true }
def SynNamesUptoSaid : Prop := synNamesUptoRow.holds Try.pinned (OpenSpec.upto synNamesSpec)

end Rows
end Go.Proofs.Ytlalnmefppbebaa
