/- What the arguments hold: a node by value; slices of slices of nodes. -/
import Derived.Test.YtbpenjdpalhmaaaOpen
import Derived.Test.YtbpenjdpalhmaaaMake
namespace Go.Proofs.Ytbpenjdpalhmaaa
open Go.ChangeShapes Go.WideShapes Go.RowKit Go.Deep Go.Joins
section
variable {H : Type} {enc : TypeId × Value → H} {w : World} {base : Nat} {spare : Nat → Bool} {held : Bool}
theorem open_node_val {r : Reach} {b0 : Nat} {v : Value} {d : DataW H} {p : List MemPlace} (hv : Value.okWide Try.prog w r b0 38 v) (h : DataW.Trod enc Try.prog w base spare held 38 v d p) : ∃ x : Nd, v = x.val := by
  obtain ⟨v0, v1, v2, v3, y0, y1, y2, y3, n, rfl, _, _, e0, e1, e2, e3⟩ := open_agg4 Try.underlying38 (by kernel_rfl) (by kernel_rfl) hv h
  obtain ⟨a, ha, _⟩ := DataW.trod_int Try.underlying36 e0
  obtain ⟨b, hb, _⟩ := DataW.trod_string Try.underlying9 e1
  obtain ⟨c, hc, _⟩ := DataW.trod_int Try.underlying2 e2
  obtain ⟨e, he, _⟩ := DataW.trod_int Try.underlying3 e3
  simp only [List.cons.injEq, and_true] at ha hb hc he
  subst ha hb hc he
  exact ⟨⟨a, b, c, e⟩, rfl⟩
theorem open_lists {v : Value} {d : DataW H} {p : List MemPlace} {a : Option Addr} {len cap : Nat} (hv : v = .slice a len cap) (h : DataW.Trod enc Try.prog w base spare held 33 v d p) : ∃ Ls, ListsAt w v Ls := by
  obtain ⟨fuel, hf⟩ := h
  have h1 : Try.prog.cellsOf 22 = 1 := by kernel_rfl
  subst hv
  rcases open_slice Try.underlying33 hf with ⟨hc, _⟩ | ⟨ad, len2, cap2, m, n, D, Pl, hc, hb, hl, hm, hmm, _, hi⟩
  · simp [Value.cells] at hc
    obtain ⟨rfl, rfl, rfl⟩ := hc
    exact ⟨[], [], SliceAt.nil w 1, fun i hi => by simp at hi⟩
  · simp [Value.cells] at hc
    obtain ⟨rfl, rfl, rfl⟩ := hc
    have hlm : len ≤ m := by rw [hmm]; split <;> omega
    have hex : ∀ i, i < len → ∃ x : Value × List Nd, w.cell? (ad.add i) = some x.1 ∧ NodesAt w x.1 x.2 := by
      intro i hil
      obtain ⟨cs', hc', ht'⟩ := hi i (by omega)
      obtain ⟨v', ns, rfl, hn⟩ := open_nodes_cells ht'
      rw [h1, Nat.mul_one] at hc'
      have := (World.cells?_some hc').2.2 0 (by omega)
      exact ⟨(v', ns), by simpa [Addr.add] using this, hn⟩
    haveI : Inhabited (Value × List Nd) := ⟨(.slice none 0 0, [])⟩
    obtain ⟨f, hf'⟩ := choose_lt hex
    refine ⟨(List.range len).map fun i => (f i).2, (List.range len).map fun i => (f i).1, ⟨by simp, some ad, cap, by simp, by simpa using hl, hm, fun h0 => ?_⟩, fun i hi' => ?_⟩
    · have hp : 0 < len := by simp at h0; omega
      have hz := (hf' 0 hp).1
      obtain ⟨b, off, spot⟩ := ad
      have hspot : spot = none := World.cell?_spot (by simpa [Addr.add] using hz)
      subst hspot
      have hlt : b < w.heap.size := by
        have hz2 : w.cell? ⟨b, off, none⟩ = some (f 0).1 := by simpa [Addr.add] using hz
        unfold World.cell? at hz2
        rcases Nat.lt_or_ge b w.heap.size with h | h
        · exact h
        · simp [Array.getElem?_eq_none h] at hz2
      refine ⟨b, off, rfl, hlt, fun j u hj => ?_⟩
      have hjl : j < len := by
        have := (List.getElem?_eq_some_iff.1 hj).1
        simpa using this
      have h2 := (hf' j hjl).1
      rw [Go.WideShapes.add_plain] at h2
      rw [h2]
      simpa [hjl] using hj
    · have hil : i < len := by simpa using hi'
      have := (hf' i hil).2
      simpa [List.getD_eq_getElem?_getD, hil] using this
end
end Go.Proofs.Ytbpenjdpalhmaaa
