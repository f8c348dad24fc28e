/- tree.Sub, tree.Make, tree.Put. -/
import Derived.Test.YtbpenjdpalhmaaaJoin
import Derived.Deep.RegionWith
namespace Go.Proofs.Ytbpenjdpalhmaaa
open Go.RowKit Go.Proofs.TreeMath
def subN (ns : List Nd) (i : Int) : List Nd := (ns.drop i.toNat).take ((endI (kk ns) i).toNat - i.toNat)
/-- A function that returns a new list of nodes, and whether it could. -/
def ERet (W : World) (ns : List Nd) (code : Int) (e : Ending) (w' : World) : Prop := ∃ v', e = .returned (.tuple #[v', .int .i64 code]) ∧ NodesAt w' v' ns ∧ Below W.heap.size W w'
theorem nodes_nil (w : World) : NodesAt w (.slice none 0 0) [] := SliceAt.nil w 4
theorem lists_new (w : World) (vs : List Value) (t : TypeId) (Ls : List (List Nd)) (hl : vs.length = Ls.length) (h : ∀ i, i < Ls.length → NodesAt w (vs.getD i default) (Ls.getD i [])) :
    Lists (w.alloc (.cells vs.toArray t)) w.heap.size 0 Ls := by
  intro i hi
  refine ⟨vs.getD i default, ?_, (h i hi).below ((Below.refl _ _).alloc (Nat.le_refl _) _)⟩
  have h1 : (w.alloc (.cells vs.toArray t)).heap[w.heap.size]? = some (.cells vs.toArray t (0, 0)) := by
    show (w.heap.push _)[w.heap.size]? = _
    simp
  unfold World.cell?
  simp only [h1]
  simp [List.getD_eq_getElem?_getD, List.getElem?_eq_getElem (show i < vs.length by omega)]
theorem lists_one (w : World) (v : Value) (t : TypeId) (ns : List Nd) (h : NodesAt w v ns) : Lists (w.alloc (.cells #[v] t)) w.heap.size 0 [ns] :=
  lists_new w [v] t [ns] rfl fun i hi => by
    obtain rfl : i = 0 := by simpa using hi
    exact h
theorem lists_three (w : World) (v1 v2 v3 : Value) (t : TypeId) (a b c : List Nd) (h1 : NodesAt w v1 a) (h2 : NodesAt w v2 b) (h3 : NodesAt w v3 c) : Lists (w.alloc (.cells #[v1, v2, v3] t)) w.heap.size 0 [a, b, c] :=
  lists_new w [v1, v2, v3] t [a, b, c] rfl fun i hi => by
    match i, hi with
    | 0, _ => exact h1
    | 1, _ => exact h2
    | 2, _ => exact h3
theorem cut_nodes {w : World} {b off n c : Nat} {ns : List Nd} (hn : ns.length = n) (hnc : n ≤ c) (hcm : c ≤ 9223372036854775807) (hb : b < w.heap.size) (hc : CellsIn w b off (nodeCells ns)) (i E : Nat) (hiE : i ≤ E) (hEn : E ≤ n) :
    NodesAt w (.slice (some ⟨b, off + i * 4, none⟩) (E - i) (c - i)) ((ns.drop i).take (E - i)) := by
  have h := SliceAt.cut (size := 4) (n := n) (by rw [length_nodeCells, hn]) hc hb i E hiE hEn (c - i) (by omega) (by unfold maxLen; omega)
  have hl : ((ns.drop i).take (E - i)).length = E - i := by rw [List.length_take, List.length_drop, hn]; omega
  unfold NodesAt
  rw [hl, nodeCells_take, nodeCells_drop]
  exact h
theorem flat_le (ns : List Nd) (i k : Nat) (h : ns.length ≤ 1000000) : [(ns.drop i).take k].flatten.length ≤ 1000000 := by
  simp
  omega
theorem nodes_slice {w : World} {v : Value} {ns : List Nd} (h : NodesAt w v ns) (hp : 0 < ns.length) : ∃ b off c, v = .slice (some ⟨b, off, none⟩) ns.length c ∧ ns.length ≤ c ∧ c ≤ 9223372036854775807 ∧ b < w.heap.size ∧ CellsIn w b off (nodeCells ns) := by
  obtain ⟨_, p, c, rfl, h1, h2, h4⟩ := h
  obtain ⟨b, off, rfl, h5, h6⟩ := h4 (by omega)
  exact ⟨b, off, c, rfl, h1, by unfold maxLen at h2; omega, h5, h6⟩
def subE (ns : List Nd) (i : Int) : Int := if endI (kk ns) i < 0 then 20 else 0
def subL (ns : List Nd) (i : Int) : List Nd := if endI (kk ns) i < 0 then [] else subN ns i
theorem Lists.drew {w : World} {b off : Nat} {Ls : List (List Nd)} (h : Lists w b off Ls) : Lists w.drew b off Ls := by
  intro i hi
  obtain ⟨v, h1, h2⟩ := h i hi
  exact ⟨v, h1, h2.below (Below.refl _ _).drew⟩
theorem cut_first {w : World} {b off n c : Nat} {ns : List Nd} (hn : ns.length = n) (hnc : n ≤ c) (hcm : c ≤ 9223372036854775807) (hb : b < w.heap.size) (hc : CellsIn w b off (nodeCells ns)) (i : Nat) (hi : i ≤ n) :
    NodesAt w (.slice (some ⟨b, off, none⟩) i c) (ns.take i) := by
  have := cut_nodes hn hnc hcm hb hc 0 i (by omega) hi
  simpa using this
theorem flat3 (ns by' : List Nd) (i E : Nat) (h : ns.length ≤ 100000) (h2 : by'.length ≤ 100000) : [ns.take i, by', ns.drop E].flatten.length ≤ 1000000 := by
  simp
  omega
theorem cut_last {w : World} {b off n E : Nat} {ns : List Nd} (hn : ns.length = n) (_ : E ≤ 9223372036854775807) (hE : n ≤ E) : NodesAt w (.slice (some ⟨b, off, none⟩) 0 0) (ns.drop E) := by
  rw [List.drop_of_length_le (by omega)]
  exact ⟨rfl, _, _, rfl, Nat.le_refl _, by unfold maxLen; omega, fun h => absurd rfl h⟩
def putE (ns : List Nd) (i : Int) (by' : List Nd) : Bool := decide (endI (kk ns) i < 0) || !wholeB (kk by')
def putL (ns : List Nd) (i : Int) (by' : List Nd) : List Nd := if putE ns i by' then [] else ns.take i.toNat ++ (by' ++ ns.drop (endI (kk ns) i).toNat)
end Go.Proofs.Ytbpenjdpalhmaaa
