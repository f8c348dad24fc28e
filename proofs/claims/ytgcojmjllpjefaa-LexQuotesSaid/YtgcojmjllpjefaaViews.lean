/- Slices of tokens, as lists, in a world. -/
import Derived.Test.YtgcojmjllpjefaaRows
import Derived.Test.YtgcojmjllpjefaaLexE
import Derived.WalkKit
import Derived.ProofKit
import Derived.Below
import Derived.Deep.OwnRows
namespace Go.Proofs.Ytgcojmjllpjefaa
open Go.RowKit Go.Proofs.LexMath

def _root_.Go.Proofs.LexMath.Tok.cells (n : Tok) : List Value := [.int .i64 n.kind, .string n.text, .int .i64 n.num, .int .i64 n.at_]
def tokCells (ns : List Tok) : List Value := ns.flatMap Tok.cells
/-- Cells, one behind the other. -/
def CellsIn (w : World) (b off : Nat) (cs : List Value) : Prop := ∀ j u, cs[j]? = some u → w.cell? ⟨b, off + j, none⟩ = some u
/-- A slice of n elements of so many cells each. -/
def SliceAt (w : World) (size : Nat) (v : Value) (n : Nat) (cs : List Value) : Prop :=
  cs.length = n * size ∧ ∃ p cap, v = .slice p n cap ∧ n ≤ cap ∧ cap ≤ maxLen ∧ (n ≠ 0 → ∃ b off, p = some ⟨b, off, none⟩ ∧ b < w.heap.size ∧ CellsIn w b off cs)
def ToksAt (w : World) (v : Value) (ns : List Tok) : Prop := SliceAt w 4 v ns.length (tokCells ns)
theorem length_tokCells (ns : List Tok) : (tokCells ns).length = ns.length * 4 := by
  induction ns with
  | nil => rfl
  | cons n ns ih =>
    unfold tokCells at ih ⊢
    rw [List.flatMap_cons, List.length_append, ih]
    simp [Tok.cells]
    omega
theorem tokCells_append (a b : List Tok) : tokCells (a ++ b) = tokCells a ++ tokCells b := by simp [tokCells]
theorem tokCells_get (ns : List Tok) (i : Nat) (hi : i < ns.length) (j : Nat) (hj : j < 4) : (tokCells ns)[i * 4 + j]? = (Tok.cells (ns.getD i default))[j]? := by
  induction ns generalizing i with
  | nil => simp at hi
  | cons n ns ih =>
    unfold tokCells at ih ⊢
    rw [List.flatMap_cons]
    have h4 : (Tok.cells n).length = 4 := rfl
    cases i with
    | zero => rw [List.getElem?_append_left (by omega)]; simp
    | succ i =>
      rw [List.getElem?_append_right (by omega), show (i + 1) * 4 + j - (Tok.cells n).length = i * 4 + j by omega, ih i (by simpa using hi)]
      simp
theorem tokCells_take (ns : List Tok) : ∀ k, tokCells (ns.take k) = (tokCells ns).take (k * 4) := by
  induction ns with
  | nil => intro k; simp [tokCells]
  | cons n ns ih =>
    intro k
    cases k with
    | zero => simp [tokCells]
    | succ k =>
      have := ih k
      unfold tokCells at this ⊢
      rw [List.take_succ_cons, List.flatMap_cons, List.flatMap_cons, this, show (k + 1) * 4 = (Tok.cells n).length + k * 4 by simp [Tok.cells]; omega, List.take_length_add_append]
theorem tokCells_drop (ns : List Tok) : ∀ k, tokCells (ns.drop k) = (tokCells ns).drop (k * 4) := by
  induction ns with
  | nil => intro k; simp [tokCells]
  | cons n ns ih =>
    intro k
    cases k with
    | zero => simp [tokCells]
    | succ k =>
      have := ih k
      unfold tokCells at this ⊢
      rw [List.drop_succ_cons, List.flatMap_cons, this, show (k + 1) * 4 = (Tok.cells n).length + k * 4 by simp [Tok.cells]; omega, List.drop_length_add_append]
theorem tokCells_one (ns : List Tok) : ∀ u ∈ tokCells ns, u.oneCell' = true := by
  intro u hu
  obtain ⟨n, _, hn⟩ := List.mem_flatMap.1 hu
  simp [Tok.cells] at hn
  rcases hn with rfl | rfl | rfl | rfl <;> rfl
theorem take_get {α : Type} {l : List α} {n j : Nat} {u : α} (h : (l.take n)[j]? = some u) : l[j]? = some u := by
  rw [List.getElem?_take] at h
  split at h
  · exact h
  · simp at h
theorem CellsIn.tok {w : World} {b off : Nat} {ns : List Tok} (h : CellsIn w b off (tokCells ns)) (i : Nat) (hi : i < ns.length) :
    w.cell? ⟨b, off + i * 4, none⟩ = some (.int .i64 (ns.getD i default).kind) ∧ w.cell? ⟨b, off + i * 4 + 1, none⟩ = some (.string (ns.getD i default).text) ∧
    w.cell? ⟨b, off + i * 4 + 2, none⟩ = some (.int .i64 (ns.getD i default).num) ∧ w.cell? ⟨b, off + i * 4 + 3, none⟩ = some (.int .i64 (ns.getD i default).at_) := by
  have h0 := h _ _ (tokCells_get ns i hi 0 (by omega))
  have h1 := h _ _ (tokCells_get ns i hi 1 (by omega))
  have h2 := h _ _ (tokCells_get ns i hi 2 (by omega))
  have h3 := h _ _ (tokCells_get ns i hi 3 (by omega))
  exact ⟨h0, h1, h2, h3⟩
theorem CellsIn.kept {w w' : World} {b off : Nat} {cs : List Value} (h : CellsIn w b off cs) (e : w'.heap[b]? = w.heap[b]?) : CellsIn w' b off cs :=
  fun j u hj => by rw [World.cell?_of_block (w := w) (w' := w') (a := ⟨b, off + j, none⟩) e]; exact h j u hj
theorem SliceAt.below {w w' : World} {size n : Nat} {v : Value} {cs : List Value} (h : SliceAt w size v n cs) (b : Below w.heap.size w w') : SliceAt w' size v n cs := by
  obtain ⟨h1, p, cap, rfl, h2, h3, h4⟩ := h
  refine ⟨h1, p, cap, rfl, h2, h3, fun hn => ?_⟩
  obtain ⟨bk, off, rfl, hb, hc⟩ := h4 hn
  exact ⟨bk, off, rfl, Nat.lt_of_lt_of_le hb b.size, hc.kept (b.block bk hb)⟩
theorem SliceAt.grown {w w' : World} {size n : Nat} {v : Value} {cs : List Value} {row : Option Nat} (h : SliceAt w size v n cs) (g : w.grownBy w' row) (hne : v.ownBlock = none ∨ v.ownBlock ≠ row) : SliceAt w' size v n cs := by
  obtain ⟨h1, p, cap, rfl, h2, h3, h4⟩ := h
  refine ⟨h1, p, cap, rfl, h2, h3, fun hn => ?_⟩
  obtain ⟨bk, off, rfl, hb, hc⟩ := h4 hn
  exact ⟨bk, off, rfl, Nat.lt_of_lt_of_le hb g.size, hc.kept (g.block bk hb (by simpa [Value.ownBlock] using hne))⟩
theorem SliceAt.of_owns {w : World} {base : Nat} {e : TypeId} {size n : Nat} {v : Value} {xs : List Value} (h : w.ownsRow base e size v n xs) : SliceAt w size v n xs := by
  obtain ⟨hl, h⟩ := h
  rcases h with ⟨rfl, rfl⟩ | ⟨g, cap, cur, rfl, hb, hg, hn, hm, hs, ht⟩
  · exact ⟨hl, none, 0, rfl, Nat.le_refl _, by unfold maxLen; omega, fun h => absurd rfl h⟩
  · refine ⟨hl, _, cap, rfl, hn, hm, fun _ => ⟨g, 0, rfl, ?_, ?_⟩⟩
    · exact (Array.getElem?_eq_some_iff.1 hg).1
    · intro j u hj
      rw [← ht] at hj
      have hj' := take_get hj
      simp [World.cell?, hg]
      simpa using hj'
theorem SliceAt.nil (w : World) (size : Nat) : SliceAt w size (.slice none 0 0) 0 [] := ⟨by simp, none, 0, rfl, Nat.le_refl _, by unfold maxLen; omega, fun h => absurd rfl h⟩
theorem ToksAt.below {w w' : World} {v : Value} {ns : List Tok} (h : ToksAt w v ns) (b : Below w.heap.size w w') : ToksAt w' v ns := SliceAt.below h b
theorem ToksAt.le {w : World} {v : Value} {ns : List Tok} (h : ToksAt w v ns) : ns.length ≤ maxLen := by
  obtain ⟨_, p, cap, _, h2, h3, _⟩ := h
  omega
/-- A cut of a slice. -/
theorem SliceAt.cut {w : World} {size n b off : Nat} {cs : List Value} (hl : cs.length = n * size) (hc : CellsIn w b off cs) (hb : b < w.heap.size) (i j : Nat) (hij : i ≤ j) (hj : j ≤ n) (c : Nat) (hjc : j - i ≤ c) (hcm : c ≤ maxLen) :
    SliceAt w size (.slice (some ⟨b, off + i * size, none⟩) (j - i) c) (j - i) ((cs.drop (i * size)).take ((j - i) * size)) := by
  refine ⟨?_, _, c, rfl, hjc, hcm, fun _ => ⟨b, _, rfl, hb, ?_⟩⟩
  · rw [List.length_take, List.length_drop, hl, ← Nat.sub_mul]
    have := Nat.mul_le_mul_right size (show j - i ≤ n - i by omega)
    omega
  · intro k u hk
    have hk' := take_get hk
    rw [List.getElem?_drop] at hk'
    rw [Nat.add_assoc]
    exact hc _ _ hk'
end Go.Proofs.Ytgcojmjllpjefaa
