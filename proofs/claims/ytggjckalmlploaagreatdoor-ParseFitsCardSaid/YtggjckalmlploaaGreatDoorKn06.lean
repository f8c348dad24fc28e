/- Texts of this seat, one behind the other: LxViews, LxFixA. -/
import Derived.Test.YtggjckalmlploaaGreatDoorRows
import Derived.Test.YtggjckalmlploaaGreatDoorKn05
import Derived.WalkKit
import Derived.ProofKit
import Derived.Below
import Derived.Deep.OwnRows
/- Slices of tokens, as lists, in a world. -/
namespace Go.Proofs.YtggjckalmlploaaGreatDoor.Lx
open Go.RowKit Go.Proofs.LexMath

def _root_.Go.Proofs.LexMath.Tok.cells (n : Tok) : List Value := [.int .i64 n.kind, .string n.text, .int .i64 n.num, .int .i64 n.at_]
def tokCells (ns : List Tok) : List Value := ns.flatMap Tok.cells
/-- Cells, one behind the other. -/
def CellsIn (w : World) (b off : Nat) (cs : List Value) : Prop := ∀ j u, cs[j]? = some u → w.cell? ⟨b, off + j, none⟩ = some u
/-- A slice of n elements of so many cells each. -/
def SliceAt (w : World) (size : Nat) (v : Value) (n : Nat) (cs : List Value) : Prop :=
  cs.length = n * size ∧ ∃ p cap, v = .slice p n cap ∧ n ≤ cap ∧ cap ≤ maxLen ∧ (n ≠ 0 → ∃ b off, p = some ⟨b, off, none⟩ ∧ b < w.heap.size ∧ CellsIn w b off cs)
def ToksAt (w : World) (v : Value) (ns : List Tok) : Prop := SliceAt w 4 v ns.length (tokCells ns)
theorem length_tokCells (ns : List Tok) : (tokCells ns).length = ns.length * 4 := by
  induction ns with
  | nil => rfl
  | cons n ns ih =>
    unfold tokCells at ih ⊢
    rw [List.flatMap_cons, List.length_append, ih]
    simp [Tok.cells]
    omega
theorem tokCells_append (a b : List Tok) : tokCells (a ++ b) = tokCells a ++ tokCells b := by simp [tokCells]
theorem tokCells_get (ns : List Tok) (i : Nat) (hi : i < ns.length) (j : Nat) (hj : j < 4) : (tokCells ns)[i * 4 + j]? = (Tok.cells (ns.getD i default))[j]? := by
  induction ns generalizing i with
  | nil => simp at hi
  | cons n ns ih =>
    unfold tokCells at ih ⊢
    rw [List.flatMap_cons]
    have h4 : (Tok.cells n).length = 4 := rfl
    cases i with
    | zero => rw [List.getElem?_append_left (by omega)]; simp
    | succ i =>
      rw [List.getElem?_append_right (by omega), show (i + 1) * 4 + j - (Tok.cells n).length = i * 4 + j by omega, ih i (by simpa using hi)]
      simp
theorem tokCells_one (ns : List Tok) : ∀ u ∈ tokCells ns, u.oneCell' = true := by
  intro u hu
  obtain ⟨n, _, hn⟩ := List.mem_flatMap.1 hu
  simp [Tok.cells] at hn
  rcases hn with rfl | rfl | rfl | rfl <;> rfl
theorem take_get {α : Type} {l : List α} {n j : Nat} {u : α} (h : (l.take n)[j]? = some u) : l[j]? = some u := by
  rw [List.getElem?_take] at h
  split at h
  · exact h
  · simp at h
theorem CellsIn.tok {w : World} {b off : Nat} {ns : List Tok} (h : CellsIn w b off (tokCells ns)) (i : Nat) (hi : i < ns.length) :
    w.cell? ⟨b, off + i * 4, none⟩ = some (.int .i64 (ns.getD i default).kind) ∧ w.cell? ⟨b, off + i * 4 + 1, none⟩ = some (.string (ns.getD i default).text) ∧
    w.cell? ⟨b, off + i * 4 + 2, none⟩ = some (.int .i64 (ns.getD i default).num) ∧ w.cell? ⟨b, off + i * 4 + 3, none⟩ = some (.int .i64 (ns.getD i default).at_) := by
  have h0 := h _ _ (tokCells_get ns i hi 0 (by omega))
  have h1 := h _ _ (tokCells_get ns i hi 1 (by omega))
  have h2 := h _ _ (tokCells_get ns i hi 2 (by omega))
  have h3 := h _ _ (tokCells_get ns i hi 3 (by omega))
  exact ⟨h0, h1, h2, h3⟩
theorem CellsIn.kept {w w' : World} {b off : Nat} {cs : List Value} (h : CellsIn w b off cs) (e : w'.heap[b]? = w.heap[b]?) : CellsIn w' b off cs :=
  fun j u hj => by rw [World.cell?_of_block (w := w) (w' := w') (a := ⟨b, off + j, none⟩) e]; exact h j u hj
theorem SliceAt.below {w w' : World} {size n : Nat} {v : Value} {cs : List Value} (h : SliceAt w size v n cs) (b : Below w.heap.size w w') : SliceAt w' size v n cs := by
  obtain ⟨h1, p, cap, rfl, h2, h3, h4⟩ := h
  refine ⟨h1, p, cap, rfl, h2, h3, fun hn => ?_⟩
  obtain ⟨bk, off, rfl, hb, hc⟩ := h4 hn
  exact ⟨bk, off, rfl, Nat.lt_of_lt_of_le hb b.size, hc.kept (b.block bk hb)⟩
theorem SliceAt.grown {w w' : World} {size n : Nat} {v : Value} {cs : List Value} {row : Option Nat} (h : SliceAt w size v n cs) (g : w.grownBy w' row) (hne : v.ownBlock = none ∨ v.ownBlock ≠ row) : SliceAt w' size v n cs := by
  obtain ⟨h1, p, cap, rfl, h2, h3, h4⟩ := h
  refine ⟨h1, p, cap, rfl, h2, h3, fun hn => ?_⟩
  obtain ⟨bk, off, rfl, hb, hc⟩ := h4 hn
  exact ⟨bk, off, rfl, Nat.lt_of_lt_of_le hb g.size, hc.kept (g.block bk hb (by simpa [Value.ownBlock] using hne))⟩
theorem SliceAt.of_owns {w : World} {base : Nat} {e : TypeId} {size n : Nat} {v : Value} {xs : List Value} (h : w.ownsRow base e size v n xs) : SliceAt w size v n xs := by
  obtain ⟨hl, h⟩ := h
  rcases h with ⟨rfl, rfl⟩ | ⟨g, cap, cur, rfl, hb, hg, hn, hm, hs, ht⟩
  · exact ⟨hl, none, 0, rfl, Nat.le_refl _, by unfold maxLen; omega, fun h => absurd rfl h⟩
  · refine ⟨hl, _, cap, rfl, hn, hm, fun _ => ⟨g, 0, rfl, ?_, ?_⟩⟩
    · exact (Array.getElem?_eq_some_iff.1 hg).1
    · intro j u hj
      rw [← ht] at hj
      have hj' := take_get hj
      simp [World.cell?, hg]
      simpa using hj'
theorem SliceAt.nil (w : World) (size : Nat) : SliceAt w size (.slice none 0 0) 0 [] := ⟨by simp, none, 0, rfl, Nat.le_refl _, by unfold maxLen; omega, fun h => absurd rfl h⟩
theorem ToksAt.below {w w' : World} {v : Value} {ns : List Tok} (h : ToksAt w v ns) (b : Below w.heap.size w w') : ToksAt w' v ns := SliceAt.below h b
/-- A cut of a slice. -/
theorem SliceAt.cut {w : World} {size n b off : Nat} {cs : List Value} (hl : cs.length = n * size) (hc : CellsIn w b off cs) (hb : b < w.heap.size) (i j : Nat) (hij : i ≤ j) (hj : j ≤ n) (c : Nat) (hjc : j - i ≤ c) (hcm : c ≤ maxLen) :
    SliceAt w size (.slice (some ⟨b, off + i * size, none⟩) (j - i) c) (j - i) ((cs.drop (i * size)).take ((j - i) * size)) := by
  refine ⟨?_, _, c, rfl, hjc, hcm, fun _ => ⟨b, _, rfl, hb, ?_⟩⟩
  · rw [List.length_take, List.length_drop, hl, ← Nat.sub_mul]
    have := Nat.mul_le_mul_right size (show j - i ≤ n - i by omega)
    omega
  · intro k u hk
    have hk' := take_get hk
    rw [List.getElem?_drop] at hk'
    rw [Nat.add_assoc]
    exact hc _ _ hk'
end Go.Proofs.YtggjckalmlploaaGreatDoor.Lx
/- The mathematics of fixities, first part: their order, and lists that are sorted. -/
namespace Go.Proofs.FixMath

structure Fx where
  op : ByteArray
  level : Int
  side : Int
  deriving DecidableEq, Inhabited

abbrev Fx.key (f : Fx) : List UInt8 := f.op.data.toList
theorem op_key {f g : Fx} : f.op = g.op ↔ f.key = g.key := by
  refine ⟨fun h => by rw [Fx.key, h], fun h => ?_⟩
  obtain ⟨⟨⟨a⟩⟩, _, _⟩ := f
  obtain ⟨⟨⟨b⟩⟩, _, _⟩ := g
  simp [Fx.key] at h
  rw [h]

/-- Whether an operator is told twice. -/
def dupB (l : List Fx) : Bool := !decide (l.map Fx.key).Nodup
theorem dup_perm {l d : List Fx} (h : d.Perm l) : dupB d = dupB l := by
  unfold dupB
  rw [decide_eq_decide.2 (h.map Fx.key).nodup_iff]
theorem dup_two {l : List Fx} (i k : Nat) (hk : k < i) (hi : i < l.length) (h : (l.getD k default).op = (l.getD i default).op) : dupB l = true := by
  unfold dupB
  rw [Bool.not_eq_true', decide_eq_false_iff_not]
  intro hn
  have := (List.getElem_inj (i := k) (j := i) (h₀ := by simp; omega) (h₁ := by simpa using hi) hn).1 (by
    have := op_key.1 h
    simp only [List.getD_eq_getElem?_getD, List.getElem?_eq_getElem hi, List.getElem?_eq_getElem (show k < l.length by omega), Option.getD_some] at this
    simpa using this)
  omega
theorem dup_none {l : List Fx} (h : ∀ i k, k < i → i < l.length → ¬ (l.getD k default).op = (l.getD i default).op) : dupB l = false := by
  unfold dupB
  rw [Bool.not_eq_false', decide_eq_true_iff, List.nodup_iff_pairwise_ne, List.pairwise_iff_getElem]
  intro k i hk hi hki e
  refine h i k hki (by simpa using hi) (op_key.2 ?_)
  simp only [List.length_map] at hk hi
  simpa [List.getD_eq_getElem?_getD, List.getElem?_eq_getElem hk, List.getElem?_eq_getElem hi] using e
/-- Of what is sorted it is told by two that stand side by side. -/
theorem dup_sorted {d : List Fx} (hs : d.Pairwise (fun a b => ¬ b.key < a.key)) (h : ∀ i, i + 1 < d.length → ¬ (d.getD i default).op = (d.getD (i + 1) default).op) : dupB d = false := by
  have hp : d.Pairwise (fun a b => a.key < b.key) := by
    rw [List.pairwise_iff_getElem] at hs ⊢
    have one : ∀ i (hi : i + 1 < d.length), (d[i]).key < (d[i + 1]).key := by
      intro i hi
      have h1 := hs i (i + 1) (by omega) hi (by omega)
      have h2 := h i hi
      rw [op_key] at h2
      simp only [List.getD_eq_getElem?_getD, List.getElem?_eq_getElem hi, List.getElem?_eq_getElem (show i < d.length by omega), Option.getD_some] at h2
      rcases List.le_iff_lt_or_eq.1 (List.not_lt.1 h1) with h | h
      · exact h
      · exact absurd h h2
    intro i j hi hj hij
    obtain ⟨n, rfl⟩ : ∃ n, j = i + 1 + n := ⟨j - (i + 1), by omega⟩
    induction n with
    | zero => exact one i hj
    | succ n ih => exact List.lt_trans (ih (by omega) (by omega)) (one (i + 1 + n) (by omega))
  refine dup_none fun i k hki hi e => ?_
  rw [List.pairwise_iff_getElem] at hp
  have := hp k i (by omega) hi hki
  rw [op_key] at e
  simp only [List.getD_eq_getElem?_getD, List.getElem?_eq_getElem hi, List.getElem?_eq_getElem (show k < d.length by omega), Option.getD_some] at e
  rw [e] at this
  exact List.lt_irrefl _ this
theorem nodup_of {l : List Fx} (h : dupB l = false) : (l.map Fx.key).Nodup := by
  unfold dupB at h
  rw [Bool.not_eq_false', decide_eq_true_iff] at h
  exact h
/-- The first of an operator. -/
def find (l : List Fx) (op : ByteArray) : Option Fx := l.find? (fun f => decide (f.op = op))
/-- One's place: the first at which it is told; else how many there are. -/
theorem find_at (l : List Fx) (op : ByteArray) (k : Nat) (hk : k < l.length) (h : (l.getD k default).op = op) (h' : ∀ j, j < k → ¬ (l.getD j default).op = op) : find l op = some (l.getD k default) := by
  induction l generalizing k with
  | nil => simp at hk
  | cons x l ih =>
    unfold find
    rw [List.find?_cons]
    cases k with
    | zero => simp at h; simp [h]
    | succ k =>
      have h0 := h' 0 (by omega)
      simp at h0
      have : decide (x.op = op) = false := by simpa using h0
      rw [this]
      exact ih k (by simpa using hk) (by simpa using h) fun j hj => by simpa using h' (j + 1) (by omega)
theorem find_none (l : List Fx) (op : ByteArray) (h : ∀ j, j < l.length → ¬ (l.getD j default).op = op) : find l op = none := by
  unfold find
  rw [List.find?_eq_none]
  intro x hx
  obtain ⟨j, hj, rfl⟩ := List.getElem_of_mem hx
  simpa [List.getD_eq_getElem?_getD, List.getElem?_eq_getElem hj] using h j hj
theorem find_mem {l : List Fx} {op : ByteArray} {f : Fx} (h : find l op = some f) : f ∈ l ∧ f.op = op := by
  unfold find at h
  exact ⟨List.mem_of_find?_eq_some h, by simpa using List.find?_some h⟩
end Go.Proofs.FixMath
