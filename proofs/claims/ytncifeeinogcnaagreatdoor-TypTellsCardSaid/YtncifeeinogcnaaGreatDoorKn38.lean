/- Texts of this seat, one behind the other: Open. -/
import Derived.Test.YtncifeeinogcnaaGreatDoorKn01
import Derived.OpenShut
import Derived.ShutString
import Derived.ChangeOld
import Derived.Deep.Slices
import Derived.Deep.Fields
import Derived.Lib.SmallJoins
/- What the arguments hold: slices of nodes, and slices of such slices. -/
set_option maxRecDepth 100000
namespace Go.Proofs.YtncifeeinogcnaaGreatDoor
open Go.ChangeShapes Go.WideShapes Go.RowKit Go.Deep
section
variable {H : Type} {enc : TypeId × Value → H} {w : World} {base : Nat} {spare : Nat → Bool} {held : Bool}
theorem open_node {fuel : Nat} {cs : List Value} {x : DataW H × List MemPlace} (h : DataW.trod enc Tryz.prog w base spare held fuel 58 cs = some x) : ∃ nd : Nd, cs = nd.cells := by
  obtain ⟨xs, n, _, _, hl, hxl, hf⟩ := DataW.trod_struct Tryz.underlying58 h
  have h4 : Tryz.prog.cellsOf 58 = 4 := by kernel_rfl
  have c35 : Tryz.prog.cellsOf 56 = 1 := by kernel_rfl
  have c9 : Tryz.prog.cellsOf 9 = 1 := by kernel_rfl
  have c2 : Tryz.prog.cellsOf 2 = 1 := by kernel_rfl
  have c3 : Tryz.prog.cellsOf 3 = 1 := by kernel_rfl
  rw [h4] at hl
  match cs, hl, xs, hxl with
  | [v0, v1, v2, v3], _, [y0, y1, y2, y3], _ =>
    have e0 := hf 0 _ rfl
    have e1 := hf 1 _ rfl
    have e2 := hf 2 _ rfl
    have e3 := hf 3 _ rfl
    try simp only [c35] at e0
    try simp only [c9] at e1
    try simp only [c2] at e2
    try simp only [c3] at e3
    obtain ⟨a, ha, _⟩ := DataW.trod_int Tryz.underlying56 (show DataW.trod enc Tryz.prog w base spare held n 56 [v0] = some y0 from e0)
    obtain ⟨b, hb, _⟩ := DataW.trod_string Tryz.underlying9 (show DataW.trod enc Tryz.prog w base spare held n 9 [v1] = some y1 from e1)
    obtain ⟨c, hc, _⟩ := DataW.trod_int Tryz.underlying2 (show DataW.trod enc Tryz.prog w base spare held n 2 [v2] = some y2 from e2)
    obtain ⟨d, hd, _⟩ := DataW.trod_int Tryz.underlying3 (show DataW.trod enc Tryz.prog w base spare held n 3 [v3] = some y3 from e3)
    simp only [List.cons.injEq, and_true] at ha hb hc hd
    subst ha hb hc hd
    exact ⟨⟨a, b, c, d⟩, rfl⟩
theorem open_nodes_cells {fuel : Nat} {cs : List Value} {x : DataW H × List MemPlace} (h : DataW.trod enc Tryz.prog w base spare held fuel 22 cs = some x) : ∃ v ns, cs = [v] ∧ NodesAt w v ns := by
  have h4 : Tryz.prog.cellsOf 58 = 4 := by kernel_rfl
  rcases open_slice Tryz.underlying22 h with ⟨rfl, _⟩ | ⟨a, len, cap, m, n, D, Pl, rfl, hb, hl, hm, hmm, _, hi⟩
  · exact ⟨_, [], rfl, SliceAt.nil w 4⟩
  · have hlm : len ≤ m := by rw [hmm]; split <;> omega
    have hex : ∀ i, i < len → ∃ nd : Nd, ∀ j, j < 4 → w.cell? ((a.add (i * 4)).add j) = nd.cells[j]? := by
      intro i hil
      obtain ⟨cs', h1, h2⟩ := hi i (by omega)
      obtain ⟨nd, rfl⟩ := open_node h2
      rw [h4] at h1
      exact ⟨nd, fun j hj => (World.cells?_some h1).2.2 j hj⟩
    obtain ⟨f, hf⟩ := choose_lt hex
    obtain ⟨ns, hns⟩ : ∃ ns, ns = (List.range len).map f := ⟨_, rfl⟩
    have hnl : ns.length = len := by simp [hns]
    have hget : ∀ i, i < len → ns.getD i default = f i := by
      intro i hil
      rw [hns, List.getD_eq_getElem?_getD]
      simp [hil]
    refine ⟨_, ns, rfl, length_nodeCells ns, some a, cap, by rw [hnl], by omega, hm, fun h0 => ?_⟩
    have hp : 0 < len := by omega
    have hz := hf 0 hp 0 (by omega)
    obtain ⟨b, off, spot⟩ := a
    have hspot : spot = none := by
      have : w.cell? ⟨b, off, spot⟩ = some (.int .i64 (f 0).kind) := by simpa [Addr.add, Nd.cells] using hz
      exact World.cell?_spot this
    subst hspot
    have hlt : b < w.heap.size := by
      have : w.cell? ⟨b, off, none⟩ = some (.int .i64 (f 0).kind) := by simpa [Addr.add, Nd.cells] using hz
      unfold World.cell? at this
      rcases Nat.lt_or_ge b w.heap.size with h | h
      · exact h
      · simp [Array.getElem?_eq_none h] at this
    refine ⟨b, off, rfl, hlt, fun j u hj => ?_⟩
    have hjl : j < len * 4 := by
      have := (List.getElem?_eq_some_iff.1 hj).1
      rw [length_nodeCells, hnl] at this
      exact this
    have hq : j / 4 < len := by omega
    have hdm : j / 4 * 4 + j % 4 = j := by omega
    have h1 := nodeCells_get ns (j / 4) (by omega) (j % 4) (by omega)
    rw [hdm, hget _ hq, hj] at h1
    have h2 := hf (j / 4) hq (j % 4) (by omega)
    rw [← h1, Go.Deep.add_add, Go.WideShapes.add_plain, hdm] at h2
    exact h2
theorem open_nodes {v : Value} {d : DataW H} {p : List MemPlace} {a : Option Addr} {len cap : Nat} (hv : v = .slice a len cap) (h : DataW.Trod enc Tryz.prog w base spare held 22 v d p) : ∃ ns, NodesAt w v ns := by
  obtain ⟨fuel, hf⟩ := h
  obtain ⟨v', ns, hc, hn⟩ := open_nodes_cells hf
  subst hv
  simp [Value.cells] at hc
  subst hc
  exact ⟨ns, hn⟩
end
end Go.Proofs.YtncifeeinogcnaaGreatDoor
