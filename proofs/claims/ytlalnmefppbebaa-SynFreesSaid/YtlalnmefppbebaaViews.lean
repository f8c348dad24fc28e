/- Slices of nodes, of numbers and of such slices, as lists, in a world. -/
import Derived.Test.YtlalnmefppbebaaRows
import Derived.Test.YtlalnmefppbebaaMath
import Derived.WalkKit
import Derived.ProofKit
import Derived.Below
import Derived.Deep.OwnRows
namespace Go.Proofs.Ytlalnmefppbebaa
open Go.RowKit

structure Nd where
  kind : Int
  text : ByteArray
  num : Int
  kids : Int
  deriving DecidableEq, Inhabited

def Nd.cells (n : Nd) : List Value := [.int .i64 n.kind, .string n.text, .int .i64 n.num, .int .i64 n.kids]
def nodeCells (ns : List Nd) : List Value := ns.flatMap Nd.cells
def intCells (xs : List Int) : List Value := xs.map (Value.int .i64)
def kk (ns : List Nd) : List Int := ns.map Nd.kids
/-- Cells, one behind the other. -/
def CellsIn (w : World) (b off : Nat) (cs : List Value) : Prop := ∀ j u, cs[j]? = some u → w.cell? ⟨b, off + j, none⟩ = some u
/-- A slice of n elements of so many cells each. -/
def SliceAt (w : World) (size : Nat) (v : Value) (n : Nat) (cs : List Value) : Prop :=
  cs.length = n * size ∧ ∃ p cap, v = .slice p n cap ∧ n ≤ cap ∧ cap ≤ maxLen ∧ (n ≠ 0 → ∃ b off, p = some ⟨b, off, none⟩ ∧ b < w.heap.size ∧ CellsIn w b off cs)
def NodesAt (w : World) (v : Value) (ns : List Nd) : Prop := SliceAt w 4 v ns.length (nodeCells ns)
def IntsAt (w : World) (v : Value) (xs : List Int) : Prop := SliceAt w 1 v xs.length (intCells xs)
def ListsAt (w : World) (v : Value) (Ls : List (List Nd)) : Prop := ∃ vs : List Value, SliceAt w 1 v Ls.length vs ∧ ∀ i, i < Ls.length → NodesAt w (vs.getD i default) (Ls.getD i [])

theorem length_nodeCells (ns : List Nd) : (nodeCells ns).length = ns.length * 4 := by
  induction ns with
  | nil => rfl
  | cons n ns ih =>
    unfold nodeCells at ih ⊢
    rw [List.flatMap_cons, List.length_append, ih]
    simp [Nd.cells]
    omega
theorem length_kk (ns : List Nd) : (kk ns).length = ns.length := by simp [kk]
theorem kk_get (ns : List Nd) (i : Nat) : (kk ns).getD i 0 = (ns.getD i default).kids := by
  simp only [kk, List.getD_eq_getElem?_getD, List.getElem?_map]
  cases ns[i]? <;> rfl
theorem nodeCells_append (a b : List Nd) : nodeCells (a ++ b) = nodeCells a ++ nodeCells b := by simp [nodeCells]
theorem nodeCells_get (ns : List Nd) (i : Nat) (hi : i < ns.length) (j : Nat) (hj : j < 4) : (nodeCells ns)[i * 4 + j]? = (Nd.cells (ns.getD i default))[j]? := by
  induction ns generalizing i with
  | nil => simp at hi
  | cons n ns ih =>
    unfold nodeCells at ih ⊢
    rw [List.flatMap_cons]
    have h4 : (Nd.cells n).length = 4 := rfl
    cases i with
    | zero => rw [List.getElem?_append_left (by omega)]; simp
    | succ i =>
      rw [List.getElem?_append_right (by omega), show (i + 1) * 4 + j - (Nd.cells n).length = i * 4 + j by omega, ih i (by simpa using hi)]
      simp
theorem nodeCells_take (ns : List Nd) : ∀ k, nodeCells (ns.take k) = (nodeCells ns).take (k * 4) := by
  induction ns with
  | nil => intro k; simp [nodeCells]
  | cons n ns ih =>
    intro k
    cases k with
    | zero => simp [nodeCells]
    | succ k =>
      have := ih k
      unfold nodeCells at this ⊢
      rw [List.take_succ_cons, List.flatMap_cons, List.flatMap_cons, this, show (k + 1) * 4 = (Nd.cells n).length + k * 4 by simp [Nd.cells]; omega, List.take_length_add_append]
theorem nodeCells_drop (ns : List Nd) : ∀ k, nodeCells (ns.drop k) = (nodeCells ns).drop (k * 4) := by
  induction ns with
  | nil => intro k; simp [nodeCells]
  | cons n ns ih =>
    intro k
    cases k with
    | zero => simp [nodeCells]
    | succ k =>
      have := ih k
      unfold nodeCells at this ⊢
      rw [List.drop_succ_cons, List.flatMap_cons, this, show (k + 1) * 4 = (Nd.cells n).length + k * 4 by simp [Nd.cells]; omega, List.drop_length_add_append]
theorem nodeCells_one (ns : List Nd) : ∀ u ∈ nodeCells ns, u.oneCell' = true := by
  intro u hu
  obtain ⟨n, _, hn⟩ := List.mem_flatMap.1 hu
  simp [Nd.cells] at hn
  rcases hn with rfl | rfl | rfl | rfl <;> rfl
theorem intCells_one (xs : List Int) : ∀ u ∈ intCells xs, u.oneCell' = true := by
  intro u hu
  obtain ⟨n, _, rfl⟩ := List.mem_map.1 hu
  rfl
theorem take_get {α : Type} {l : List α} {n j : Nat} {u : α} (h : (l.take n)[j]? = some u) : l[j]? = some u := by
  rw [List.getElem?_take] at h
  split at h
  · exact h
  · simp at h
theorem CellsIn.node {w : World} {b off : Nat} {ns : List Nd} (h : CellsIn w b off (nodeCells ns)) (i : Nat) (hi : i < ns.length) :
    w.cell? ⟨b, off + i * 4, none⟩ = some (.int .i64 (ns.getD i default).kind) ∧ w.cell? ⟨b, off + i * 4 + 1, none⟩ = some (.string (ns.getD i default).text) ∧
    w.cell? ⟨b, off + i * 4 + 2, none⟩ = some (.int .i64 (ns.getD i default).num) ∧ w.cell? ⟨b, off + i * 4 + 3, none⟩ = some (.int .i64 (ns.getD i default).kids) := by
  have h0 := h _ _ (nodeCells_get ns i hi 0 (by omega))
  have h1 := h _ _ (nodeCells_get ns i hi 1 (by omega))
  have h2 := h _ _ (nodeCells_get ns i hi 2 (by omega))
  have h3 := h _ _ (nodeCells_get ns i hi 3 (by omega))
  exact ⟨h0, h1, h2, h3⟩
theorem CellsIn.kids {w : World} {b off : Nat} {ns : List Nd} (h : CellsIn w b off (nodeCells ns)) (i : Nat) (hi : i < ns.length) :
    w.cell? ⟨b, off + i * 4 + 3, none⟩ = some (.int .i64 ((kk ns).getD i 0)) := by
  rw [kk_get]
  exact (h.node i hi).2.2.2
theorem CellsIn.int {w : World} {b off : Nat} {xs : List Int} (h : CellsIn w b off (intCells xs)) (i : Nat) (hi : i < xs.length) :
    w.cell? ⟨b, off + i, none⟩ = some (.int .i64 (xs.getD i 0)) := by
  refine h i _ ?_
  simp [intCells, List.getElem?_eq_getElem hi, List.getD_eq_getElem?_getD]
theorem CellsIn.kept {w w' : World} {b off : Nat} {cs : List Value} (h : CellsIn w b off cs) (e : w'.heap[b]? = w.heap[b]?) : CellsIn w' b off cs :=
  fun j u hj => by rw [World.cell?_of_block (w := w) (w' := w') (a := ⟨b, off + j, none⟩) e]; exact h j u hj
theorem SliceAt.below {w w' : World} {size n : Nat} {v : Value} {cs : List Value} (h : SliceAt w size v n cs) (b : Below w.heap.size w w') : SliceAt w' size v n cs := by
  obtain ⟨h1, p, cap, rfl, h2, h3, h4⟩ := h
  refine ⟨h1, p, cap, rfl, h2, h3, fun hn => ?_⟩
  obtain ⟨bk, off, rfl, hb, hc⟩ := h4 hn
  exact ⟨bk, off, rfl, Nat.lt_of_lt_of_le hb b.size, hc.kept (b.block bk hb)⟩
theorem SliceAt.grown {w w' : World} {size n : Nat} {v : Value} {cs : List Value} {row : Option Nat} (h : SliceAt w size v n cs) (g : w.grownBy w' row) (hne : v.ownBlock = none ∨ v.ownBlock ≠ row) : SliceAt w' size v n cs := by
  obtain ⟨h1, p, cap, rfl, h2, h3, h4⟩ := h
  refine ⟨h1, p, cap, rfl, h2, h3, fun hn => ?_⟩
  obtain ⟨bk, off, rfl, hb, hc⟩ := h4 hn
  exact ⟨bk, off, rfl, Nat.lt_of_lt_of_le hb g.size, hc.kept (g.block bk hb (by simpa [Value.ownBlock] using hne))⟩
theorem SliceAt.of_owns {w : World} {base : Nat} {e : TypeId} {size n : Nat} {v : Value} {xs : List Value} (h : w.ownsRow base e size v n xs) : SliceAt w size v n xs := by
  obtain ⟨hl, h⟩ := h
  rcases h with ⟨rfl, rfl⟩ | ⟨g, cap, cur, rfl, hb, hg, hn, hm, hs, ht⟩
  · exact ⟨hl, none, 0, rfl, Nat.le_refl _, by unfold maxLen; omega, fun h => absurd rfl h⟩
  · refine ⟨hl, _, cap, rfl, hn, hm, fun _ => ⟨g, 0, rfl, ?_, ?_⟩⟩
    · exact (Array.getElem?_eq_some_iff.1 hg).1
    · intro j u hj
      rw [← ht] at hj
      have hj' := take_get hj
      simp [World.cell?, hg]
      simpa using hj'
theorem SliceAt.nil (w : World) (size : Nat) : SliceAt w size (.slice none 0 0) 0 [] := ⟨by simp, none, 0, rfl, Nat.le_refl _, by unfold maxLen; omega, fun h => absurd rfl h⟩
theorem NodesAt.below {w w' : World} {v : Value} {ns : List Nd} (h : NodesAt w v ns) (b : Below w.heap.size w w') : NodesAt w' v ns := SliceAt.below h b
theorem IntsAt.below {w w' : World} {v : Value} {xs : List Int} (h : IntsAt w v xs) (b : Below w.heap.size w w') : IntsAt w' v xs := SliceAt.below h b
theorem ListsAt.below {w w' : World} {v : Value} {Ls : List (List Nd)} (h : ListsAt w v Ls) (b : Below w.heap.size w w') : ListsAt w' v Ls := by
  obtain ⟨vs, h1, h2⟩ := h
  exact ⟨vs, h1.below b, fun i hi => (h2 i hi).below b⟩
theorem NodesAt.le {w : World} {v : Value} {ns : List Nd} (h : NodesAt w v ns) : ns.length ≤ maxLen := by
  obtain ⟨_, p, cap, _, h2, h3, _⟩ := h
  omega
/-- A cut of a slice. -/
theorem SliceAt.cut {w : World} {size n b off : Nat} {cs : List Value} (hl : cs.length = n * size) (hc : CellsIn w b off cs) (hb : b < w.heap.size) (i j : Nat) (hij : i ≤ j) (hj : j ≤ n) (c : Nat) (hjc : j - i ≤ c) (hcm : c ≤ maxLen) :
    SliceAt w size (.slice (some ⟨b, off + i * size, none⟩) (j - i) c) (j - i) ((cs.drop (i * size)).take ((j - i) * size)) := by
  refine ⟨?_, _, c, rfl, hjc, hcm, fun _ => ⟨b, _, rfl, hb, ?_⟩⟩
  · rw [List.length_take, List.length_drop, hl, ← Nat.sub_mul]
    have := Nat.mul_le_mul_right size (show j - i ≤ n - i by omega)
    omega
  · intro k u hk
    have hk' := take_get hk
    rw [List.getElem?_drop] at hk'
    rw [Nat.add_assoc]
    exact hc _ _ hk'
end Go.Proofs.Ytlalnmefppbebaa
