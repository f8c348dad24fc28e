/- What an argument holds: nodes. -/
import Derived.Test.YtncifeeinogcnaaGreatDoorKn47
set_option maxRecDepth 100000
namespace Go.Proofs.YtncifeeinogcnaaGreatDoor
open Go.ChangeShapes Go.WideShapes Go.RowKit Go.Deep
section
variable {H : Type} {enc : TypeId × Value → H} {w : World} {base : Nat} {spare : Nat → Bool} {held : Bool}
theorem open_nodes {v : Value} {d : DataW H} {p : List MemPlace} {a : Option Addr} {len cap : Nat} (hv : v = .slice a len cap) (h : DataW.Trod enc Tryz.prog w base spare held 22 v d p) : ∃ ns, NodesAt w v ns := by
  obtain ⟨fuel, hf⟩ := h
  obtain ⟨v', ns, hc, hn⟩ := open_nodes_cells hf
  subst hv
  simp [Value.cells] at hc
  subst hc
  exact ⟨ns, hn⟩
end
end Go.Proofs.YtncifeeinogcnaaGreatDoor
