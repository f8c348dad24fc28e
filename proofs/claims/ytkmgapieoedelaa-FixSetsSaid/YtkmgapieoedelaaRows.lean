/-
  No cell of these rows narrows 'for every input' (looked for: loops, veiled, ifaces, maps, wideKeys, modest, calm, conditions, laid).
  DERIVED. THE GIVEN ROWS OF THIS SEAT. 7 by the template 'for every input the law returns true; each argument reads behind the call as it read before'; 0 by the template 'total and deterministic' (their statements: YtkmgapieoedelaaTotals.lean).
  GIVEN WITH THE SEED: the statements are not yours to turn. If you find one false, say at which input.
  Laid BY PROGRAM, IN A SANDBOX (cutbox-rows.mjs): the forced cells as the released guide's own fill.sh prints them over the translation d78b8439abb5e0ef… (all of the seat's roots in one cut). By AI agents, Wed Nov 11 2026. No macro, syntax, notation, axiom, sorry.
-/
import Derived.Test.YtkmgapieoedelaaChecked
import GoSem.Claim
import GoSem.ClaimJoined
import GoSem.ClaimMapViews
import Derived.JoinedTies
import Derived.KernelRfl
namespace Go.Proofs.Ytkmgapieoedelaa
/- THE CELL 'sum', in the pinned program and in every row, IS THE sha256 OF THE DUMP (.gsa) THAT YtkmgapieoedelaaProg.lean LOADS. Nothing in Lean hashes anything: it is a label: what it is worth is what the hold of that sum in a sandbox is worth. -/
noncomputable def Try.pinned : Pinned := { name := "ytkmgapieoedelaa", sum := "d78b8439abb5e0ef53fda7c735affedfa141775ddaddad2752909db0cd61c4e8", checked := Try.checked }
namespace Rows
def none {H : Type} : Left H := { results := [], args := [] }

/-- 'triglyphlaw04.FixSets': WHATEVER THE INPUT: true; the input reads as it did. -/
def fixSetsSpec : ChangeSpec := { name := "fixSets", fn := fun _ => fun
  | [d1, d2, d3] => { results := [.lit (.bool true)], args := [d1, d2, d3] }
  | _ => none }
def fixSetsRow : OpenClaim := { program := "ytkmgapieoedelaa", sum := "d78b8439abb5e0ef53fda7c735affedfa141775ddaddad2752909db0cd61c4e8", func := "triglyph/triglyphlaw04.FixSets", spec := "fixSets", inPlace := ["internal/bytealg.abigen_runtime_cmpstring"], unfollowed := true, recurses := true, apart := false }
def FixSetsSaid : Prop := fixSetsRow.holds Try.pinned (OpenSpec.ofChange fixSetsSpec)

/-- ITS FALSE NEIGHBOUR: 'it returns false'. Refute it at one input. -/
def fixSetsWrong : ChangeSpec := { name := "fixSets", fn := fun _ => fun
  | [d1, d2, d3] => { results := [.lit (.bool false)], args := [d1, d2, d3] }
  | _ => none }
def FixSetsWrongFalsely : Prop := fixSetsRow.holds Try.pinned (OpenSpec.ofChange fixSetsWrong)

/-- 'triglyphlaw04.FixClimbs': WHATEVER THE INPUT: true; the input reads as it did. -/
def fixClimbsSpec : ChangeSpec := { name := "fixClimbs", fn := fun _ => fun
  | [d1, d2] => { results := [.lit (.bool true)], args := [d1, d2] }
  | _ => none }
def fixClimbsRow : OpenClaim := { program := "ytkmgapieoedelaa", sum := "d78b8439abb5e0ef53fda7c735affedfa141775ddaddad2752909db0cd61c4e8", func := "triglyph/triglyphlaw04.FixClimbs", spec := "fixClimbs", inPlace := ["internal/bytealg.abigen_runtime_cmpstring"], unfollowed := true, recurses := true, apart := false }
def FixClimbsSaid : Prop := fixClimbsRow.holds Try.pinned (OpenSpec.ofChange fixClimbsSpec)

/-- ITS FALSE NEIGHBOUR: 'it returns false'. Refute it at one input. -/
def fixClimbsWrong : ChangeSpec := { name := "fixClimbs", fn := fun _ => fun
  | [d1, d2] => { results := [.lit (.bool false)], args := [d1, d2] }
  | _ => none }
def FixClimbsWrongFalsely : Prop := fixClimbsRow.holds Try.pinned (OpenSpec.ofChange fixClimbsWrong)

/-- 'triglyphlaw04.FixFlats': WHATEVER THE INPUT: true; the input reads as it did. -/
def fixFlatsSpec : ChangeSpec := { name := "fixFlats", fn := fun _ => fun
  | [d] => { results := [.lit (.bool true)], args := [d] }
  | _ => none }
def fixFlatsRow : OpenClaim := { program := "ytkmgapieoedelaa", sum := "d78b8439abb5e0ef53fda7c735affedfa141775ddaddad2752909db0cd61c4e8", func := "triglyph/triglyphlaw04.FixFlats", spec := "fixFlats", inPlace := ["internal/bytealg.abigen_runtime_cmpstring"], unfollowed := true, recurses := true, apart := false }
def FixFlatsSaid : Prop := fixFlatsRow.holds Try.pinned (OpenSpec.ofChange fixFlatsSpec)

/-- ITS FALSE NEIGHBOUR: 'it returns false'. Refute it at one input. -/
def fixFlatsWrong : ChangeSpec := { name := "fixFlats", fn := fun _ => fun
  | [d] => { results := [.lit (.bool false)], args := [d] }
  | _ => none }
def FixFlatsWrongFalsely : Prop := fixFlatsRow.holds Try.pinned (OpenSpec.ofChange fixFlatsWrong)

/-- 'triglyphlaw04.FixRows': WHATEVER THE INPUT: true; the input reads as it did. -/
def fixRowsSpec : ChangeSpec := { name := "fixRows", fn := fun _ => fun
  | [d1, d2] => { results := [.lit (.bool true)], args := [d1, d2] }
  | _ => none }
def fixRowsRow : OpenClaim := { program := "ytkmgapieoedelaa", sum := "d78b8439abb5e0ef53fda7c735affedfa141775ddaddad2752909db0cd61c4e8", func := "triglyph/triglyphlaw04.FixRows", spec := "fixRows", inPlace := ["internal/bytealg.abigen_runtime_cmpstring"], unfollowed := true, recurses := true, apart := false }
def FixRowsSaid : Prop := fixRowsRow.holds Try.pinned (OpenSpec.ofChange fixRowsSpec)

/-- ITS FALSE NEIGHBOUR: 'it returns false'. Refute it at one input. -/
def fixRowsWrong : ChangeSpec := { name := "fixRows", fn := fun _ => fun
  | [d1, d2] => { results := [.lit (.bool false)], args := [d1, d2] }
  | _ => none }
def FixRowsWrongFalsely : Prop := fixRowsRow.holds Try.pinned (OpenSpec.ofChange fixRowsWrong)

/-- 'triglyphlaw04.FixBinds': WHATEVER THE INPUT: true; the input reads as it did. -/
def fixBindsSpec : ChangeSpec := { name := "fixBinds", fn := fun _ => fun
  | [d1, d2] => { results := [.lit (.bool true)], args := [d1, d2] }
  | _ => none }
def fixBindsRow : OpenClaim := { program := "ytkmgapieoedelaa", sum := "d78b8439abb5e0ef53fda7c735affedfa141775ddaddad2752909db0cd61c4e8", func := "triglyph/triglyphlaw04.FixBinds", spec := "fixBinds", inPlace := ["internal/bytealg.abigen_runtime_cmpstring"], unfollowed := true, recurses := true, apart := false }
def FixBindsSaid : Prop := fixBindsRow.holds Try.pinned (OpenSpec.ofChange fixBindsSpec)

/-- ITS FALSE NEIGHBOUR: 'it returns false'. Refute it at one input. -/
def fixBindsWrong : ChangeSpec := { name := "fixBinds", fn := fun _ => fun
  | [d1, d2] => { results := [.lit (.bool false)], args := [d1, d2] }
  | _ => none }
def FixBindsWrongFalsely : Prop := fixBindsRow.holds Try.pinned (OpenSpec.ofChange fixBindsWrong)

/-- 'triglyphlaw04.FixOne': WHATEVER THE INPUT: true; the input reads as it did. -/
def fixOneSpec : ChangeSpec := { name := "fixOne", fn := fun _ => fun
  | [d1, d2] => { results := [.lit (.bool true)], args := [d1, d2] }
  | _ => none }
def fixOneRow : OpenClaim := { program := "ytkmgapieoedelaa", sum := "d78b8439abb5e0ef53fda7c735affedfa141775ddaddad2752909db0cd61c4e8", func := "triglyph/triglyphlaw04.FixOne", spec := "fixOne", inPlace := ["internal/bytealg.abigen_runtime_cmpstring"], unfollowed := true, recurses := true, apart := false }
def FixOneSaid : Prop := fixOneRow.holds Try.pinned (OpenSpec.ofChange fixOneSpec)

/-- ITS FALSE NEIGHBOUR: 'it returns false'. Refute it at one input. -/
def fixOneWrong : ChangeSpec := { name := "fixOne", fn := fun _ => fun
  | [d1, d2] => { results := [.lit (.bool false)], args := [d1, d2] }
  | _ => none }
def FixOneWrongFalsely : Prop := fixOneRow.holds Try.pinned (OpenSpec.ofChange fixOneWrong)

/-- 'triglyphlaw04.FixOrder': WHATEVER THE INPUT: true; the input reads as it did. -/
def fixOrderSpec : ChangeSpec := { name := "fixOrder", fn := fun _ => fun
  | [d1, d2, d3] => { results := [.lit (.bool true)], args := [d1, d2, d3] }
  | _ => none }
def fixOrderRow : OpenClaim := { program := "ytkmgapieoedelaa", sum := "d78b8439abb5e0ef53fda7c735affedfa141775ddaddad2752909db0cd61c4e8", func := "triglyph/triglyphlaw04.FixOrder", spec := "fixOrder", inPlace := ["internal/bytealg.abigen_runtime_cmpstring"], unfollowed := true, recurses := true, apart := false }
def FixOrderSaid : Prop := fixOrderRow.holds Try.pinned (OpenSpec.ofChange fixOrderSpec)

/-- ITS FALSE NEIGHBOUR: 'it returns false'. Refute it at one input. -/
def fixOrderWrong : ChangeSpec := { name := "fixOrder", fn := fun _ => fun
  | [d1, d2, d3] => { results := [.lit (.bool false)], args := [d1, d2, d3] }
  | _ => none }
def FixOrderWrongFalsely : Prop := fixOrderRow.holds Try.pinned (OpenSpec.ofChange fixOrderWrong)

/- THE SECOND FORM. 'bulk': how many values and letters a reading holds, each counted each time it is reached (what is shared counts as often as it is met; a slice's spare places count too). A statement '..UptoSaid' is the law's where the arguments, and the package variables that the reading takes, are together of bulk at most 1048576: NARROWER than '..Said'. Prove '..Said' where nothing that the law and all that it calls make is longer than what came in: it says more and counts as full. Else prove '..UptoSaid'. A law counts once. -/
mutual
def uptoBulk {H : Type} : DataW H → Nat
  | .lit (.string bytes) => bytes.length + 1
  | .lit _ => 1
  | .nil => 1
  | .ptr d => uptoBulk d + 1
  | .slice elems spare => uptoBulkAll elems + uptoBulkAll spare + 1
  | .agg parts => uptoBulkAll parts + 1
  | .iface _ d => uptoBulk d + 1
  | .map entries => uptoBulkEntries entries + 1
  | .held _ => 1
def uptoBulkAll {H : Type} : List (DataW H) → Nat
  | [] => 0
  | d :: r => uptoBulk d + uptoBulkAll r
def uptoBulkEntries {H : Type} : List (Lit × DataW H) → Nat
  | [] => 0
  | x :: r => uptoBulkEntry x + uptoBulkEntries r
def uptoBulkEntry {H : Type} : Lit × DataW H → Nat
  | (.string bytes, d) => bytes.length + uptoBulk d + 1
  | (_, d) => uptoBulk d + 1
 end
def uptoSmall : (H : Type) → List (DataW H) → Bool := fun _ ds => decide (uptoBulkAll ds ≤ 1048576)
def OpenSpec.upto (s : _root_.Go.ChangeSpec) : _root_.Go.OpenSpec := { _root_.Go.OpenSpec.ofChange s with cond := some uptoSmall }

/-- 'triglyphlaw04.FixSets', WHERE WHAT IT READS IS OF BULK AT MOST 1048576: true; the input reads as it did. -/
def fixSetsUptoRow : OpenClaim := { program := "ytkmgapieoedelaa", sum := "d78b8439abb5e0ef53fda7c735affedfa141775ddaddad2752909db0cd61c4e8", func := "triglyph/triglyphlaw04.FixSets", spec := "fixSets", inPlace := ["internal/bytealg.abigen_runtime_cmpstring"], unfollowed := true, recurses := true, apart := false, narrowed := true }
def FixSetsUptoSaid : Prop := fixSetsUptoRow.holds Try.pinned (OpenSpec.upto fixSetsSpec)

/-- 'triglyphlaw04.FixClimbs', WHERE WHAT IT READS IS OF BULK AT MOST 1048576: true; the input reads as it did. -/
def fixClimbsUptoRow : OpenClaim := { program := "ytkmgapieoedelaa", sum := "d78b8439abb5e0ef53fda7c735affedfa141775ddaddad2752909db0cd61c4e8", func := "triglyph/triglyphlaw04.FixClimbs", spec := "fixClimbs", inPlace := ["internal/bytealg.abigen_runtime_cmpstring"], unfollowed := true, recurses := true, apart := false, narrowed := true }
def FixClimbsUptoSaid : Prop := fixClimbsUptoRow.holds Try.pinned (OpenSpec.upto fixClimbsSpec)

/-- 'triglyphlaw04.FixFlats', WHERE WHAT IT READS IS OF BULK AT MOST 1048576: true; the input reads as it did. -/
def fixFlatsUptoRow : OpenClaim := { program := "ytkmgapieoedelaa", sum := "d78b8439abb5e0ef53fda7c735affedfa141775ddaddad2752909db0cd61c4e8", func := "triglyph/triglyphlaw04.FixFlats", spec := "fixFlats", inPlace := ["internal/bytealg.abigen_runtime_cmpstring"], unfollowed := true, recurses := true, apart := false, narrowed := true }
def FixFlatsUptoSaid : Prop := fixFlatsUptoRow.holds Try.pinned (OpenSpec.upto fixFlatsSpec)

/-- 'triglyphlaw04.FixRows', WHERE WHAT IT READS IS OF BULK AT MOST 1048576: true; the input reads as it did. -/
def fixRowsUptoRow : OpenClaim := { program := "ytkmgapieoedelaa", sum := "d78b8439abb5e0ef53fda7c735affedfa141775ddaddad2752909db0cd61c4e8", func := "triglyph/triglyphlaw04.FixRows", spec := "fixRows", inPlace := ["internal/bytealg.abigen_runtime_cmpstring"], unfollowed := true, recurses := true, apart := false, narrowed := true }
def FixRowsUptoSaid : Prop := fixRowsUptoRow.holds Try.pinned (OpenSpec.upto fixRowsSpec)

/-- 'triglyphlaw04.FixBinds', WHERE WHAT IT READS IS OF BULK AT MOST 1048576: true; the input reads as it did. -/
def fixBindsUptoRow : OpenClaim := { program := "ytkmgapieoedelaa", sum := "d78b8439abb5e0ef53fda7c735affedfa141775ddaddad2752909db0cd61c4e8", func := "triglyph/triglyphlaw04.FixBinds", spec := "fixBinds", inPlace := ["internal/bytealg.abigen_runtime_cmpstring"], unfollowed := true, recurses := true, apart := false, narrowed := true }
def FixBindsUptoSaid : Prop := fixBindsUptoRow.holds Try.pinned (OpenSpec.upto fixBindsSpec)

/-- 'triglyphlaw04.FixOne', WHERE WHAT IT READS IS OF BULK AT MOST 1048576: true; the input reads as it did. -/
def fixOneUptoRow : OpenClaim := { program := "ytkmgapieoedelaa", sum := "d78b8439abb5e0ef53fda7c735affedfa141775ddaddad2752909db0cd61c4e8", func := "triglyph/triglyphlaw04.FixOne", spec := "fixOne", inPlace := ["internal/bytealg.abigen_runtime_cmpstring"], unfollowed := true, recurses := true, apart := false, narrowed := true }
def FixOneUptoSaid : Prop := fixOneUptoRow.holds Try.pinned (OpenSpec.upto fixOneSpec)

/-- 'triglyphlaw04.FixOrder', WHERE WHAT IT READS IS OF BULK AT MOST 1048576: true; the input reads as it did. -/
def fixOrderUptoRow : OpenClaim := { program := "ytkmgapieoedelaa", sum := "d78b8439abb5e0ef53fda7c735affedfa141775ddaddad2752909db0cd61c4e8", func := "triglyph/triglyphlaw04.FixOrder", spec := "fixOrder", inPlace := ["internal/bytealg.abigen_runtime_cmpstring"], unfollowed := true, recurses := true, apart := false, narrowed := true }
def FixOrderUptoSaid : Prop := fixOrderUptoRow.holds Try.pinned (OpenSpec.upto fixOrderSpec)

end Rows
end Go.Proofs.Ytkmgapieoedelaa
