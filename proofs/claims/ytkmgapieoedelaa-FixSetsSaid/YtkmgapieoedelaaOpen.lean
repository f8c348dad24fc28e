/- What the arguments hold: a fixity by value, and slices of fixities, of texts and of numbers. -/
import Derived.Test.YtkmgapieoedelaaFixV
import Derived.OpenShut
import Derived.ShutString
import Derived.ChangeOld
import Derived.Deep.Slices
import Derived.Deep.Fields
import Derived.Lib.SmallJoins
namespace Go.Proofs.Ytkmgapieoedelaa
open Go.ChangeShapes Go.WideShapes Go.RowKit Go.Deep Go.Joins Go.Proofs.FixMath
section
variable {H : Type} {enc : TypeId × Value → H} {w : World} {base : Nat} {spare : Nat → Bool} {held : Bool}
set_option maxRecDepth 100000 in
theorem open_fix {fuel : Nat} {cs : List Value} {x : DataW H × List MemPlace} (h : DataW.trod enc Try.prog w base spare held fuel 24 cs = some x) : ∃ nd : Fx, cs = nd.cells := by
  obtain ⟨xs, n, _, _, hl, hxl, hf⟩ := DataW.trod_struct Try.underlying24 h
  have h3 : Try.prog.cellsOf 24 = 3 := by kernel_rfl
  have c9 : Try.prog.cellsOf 9 = 1 := by kernel_rfl
  have c3 : Try.prog.cellsOf 3 = 1 := by kernel_rfl
  rw [h3] at hl
  match cs, hl, xs, hxl with
  | [v0, v1, v2], _, [y0, y1, y2], _ =>
    have e0 := hf 0 _ rfl
    have e1 := hf 1 _ rfl
    have e2 := hf 2 _ rfl
    try simp only [c9] at e0
    try simp only [c3] at e1
    try simp only [c3] at e2
    obtain ⟨a, ha, _⟩ := DataW.trod_string Try.underlying9 (show DataW.trod enc Try.prog w base spare held n 9 [v0] = some y0 from e0)
    obtain ⟨b, hb, _⟩ := DataW.trod_int Try.underlying3 (show DataW.trod enc Try.prog w base spare held n 3 [v1] = some y1 from e1)
    obtain ⟨c, hc, _⟩ := DataW.trod_int Try.underlying3 (show DataW.trod enc Try.prog w base spare held n 3 [v2] = some y2 from e2)
    simp only [List.cons.injEq, and_true] at ha hb hc
    subst ha hb hc
    exact ⟨⟨a, b, c⟩, rfl⟩
theorem open_fixes_cells {fuel : Nat} {cs : List Value} {x : DataW H × List MemPlace} (h : DataW.trod enc Try.prog w base spare held fuel 22 cs = some x) : ∃ v ns, cs = [v] ∧ FixAt w v ns := by
  have h3 : Try.prog.cellsOf 24 = 3 := by kernel_rfl
  rcases open_slice Try.underlying22 h with ⟨rfl, _⟩ | ⟨a, len, cap, m, n, D, Pl, rfl, hb, hl, hm, hmm, _, hi⟩
  · exact ⟨_, [], rfl, SliceAt.nil w 3⟩
  · have hlm : len ≤ m := by rw [hmm]; split <;> omega
    have hex : ∀ i, i < len → ∃ nd : Fx, ∀ j, j < 3 → w.cell? ((a.add (i * 3)).add j) = nd.cells[j]? := by
      intro i hil
      obtain ⟨cs', h1, h2⟩ := hi i (by omega)
      obtain ⟨nd, rfl⟩ := open_fix h2
      rw [h3] at h1
      exact ⟨nd, fun j hj => (World.cells?_some h1).2.2 j hj⟩
    obtain ⟨f, hf⟩ := choose_lt hex
    obtain ⟨ns, hns⟩ : ∃ ns, ns = (List.range len).map f := ⟨_, rfl⟩
    have hnl : ns.length = len := by simp [hns]
    have hget : ∀ i, i < len → ns.getD i default = f i := by
      intro i hil
      rw [hns, List.getD_eq_getElem?_getD]
      simp [hil]
    refine ⟨_, ns, rfl, length_fxCells ns, some a, cap, by rw [hnl], by omega, hm, fun h0 => ?_⟩
    have hp : 0 < len := by omega
    have hz := hf 0 hp 0 (by omega)
    obtain ⟨b, off, spot⟩ := a
    have hspot : spot = none := by
      have : w.cell? ⟨b, off, spot⟩ = some (.string (f 0).op) := by simpa [Addr.add, Fx.cells] using hz
      exact World.cell?_spot this
    subst hspot
    have hlt : b < w.heap.size := by
      have : w.cell? ⟨b, off, none⟩ = some (.string (f 0).op) := by simpa [Addr.add, Fx.cells] using hz
      unfold World.cell? at this
      rcases Nat.lt_or_ge b w.heap.size with h | h
      · exact h
      · simp [Array.getElem?_eq_none h] at this
    refine ⟨b, off, rfl, hlt, fun j u hj => ?_⟩
    have hjl : j < len * 3 := by
      have := (List.getElem?_eq_some_iff.1 hj).1
      rw [length_fxCells, hnl] at this
      exact this
    have hq : j / 3 < len := by omega
    have hdm : j / 3 * 3 + j % 3 = j := by omega
    have h1 := fxCells_get ns (j / 3) (by omega) (j % 3) (by omega)
    rw [hdm, hget _ hq, hj] at h1
    have h2 := hf (j / 3) hq (j % 3) (by omega)
    rw [← h1, Go.Deep.add_add, Go.WideShapes.add_plain, hdm] at h2
    exact h2
theorem open_fixes {v : Value} {d : DataW H} {p : List MemPlace} {a : Option Addr} {len cap : Nat} (hv : v = .slice a len cap) (h : DataW.Trod enc Try.prog w base spare held 22 v d p) : ∃ ns, FixAt w v ns := by
  obtain ⟨fuel, hf⟩ := h
  obtain ⟨v', ns, hc, hn⟩ := open_fixes_cells hf
  subst hv
  simp [Value.cells] at hc
  subst hc
  exact ⟨ns, hn⟩
/-- A slice of values of one cell, each of which is one of a kind. -/
theorem open_ones {α : Type} [Inhabited α] {g : α → Value} {t e : TypeId} {fuel : Nat} {cs : List Value} {x : DataW H × List MemPlace} (ht : Try.prog.underlying t = some (.slice e)) (h1 : Try.prog.cellsOf e = 1)
    (hone : ∀ {n : Nat} {u : Value} {y : DataW H × List MemPlace}, DataW.trod enc Try.prog w base spare held n e [u] = some y → ∃ a, u = g a) (h : DataW.trod enc Try.prog w base spare held fuel t cs = some x) : ∃ v, ∃ ns : List α, cs = [v] ∧ SliceAt w 1 v ns.length (ns.map g) := by
  rcases open_slice ht h with ⟨rfl, _⟩ | ⟨a, len, cap, m, n, D, Pl, rfl, hb, hl, hm, hmm, _, hi⟩
  · exact ⟨_, [], rfl, SliceAt.nil w 1⟩
  · have hlm : len ≤ m := by rw [hmm]; split <;> omega
    have hex : ∀ i, i < len → ∃ nd : α, w.cell? (a.add i) = some (g nd) := by
      intro i hil
      obtain ⟨cs', h1', h2⟩ := hi i (by omega)
      rw [h1, Nat.mul_one] at h1'
      obtain ⟨hz, _, hg⟩ := World.cells?_some h1'
      match cs', hz with
      | [u], _ =>
        obtain ⟨nd, rfl⟩ := hone h2
        have := hg 0 (by omega)
        rw [Go.Deep.add_add, Nat.add_zero] at this
        exact ⟨nd, this⟩
    obtain ⟨f, hf⟩ := choose_lt hex
    obtain ⟨ns, hns⟩ : ∃ ns, ns = (List.range len).map f := ⟨_, rfl⟩
    have hnl : ns.length = len := by simp [hns]
    refine ⟨_, ns, rfl, by simp, some a, cap, by rw [hnl], by omega, hm, fun h0 => ?_⟩
    have hp : 0 < len := by omega
    have hz := hf 0 hp
    obtain ⟨b, off, spot⟩ := a
    have hspot : spot = none := by
      have : w.cell? ⟨b, off, spot⟩ = some (g (f 0)) := by simpa [Addr.add] using hz
      exact World.cell?_spot this
    subst hspot
    have hlt : b < w.heap.size := by
      have : w.cell? ⟨b, off, none⟩ = some (g (f 0)) := by simpa [Addr.add] using hz
      unfold World.cell? at this
      rcases Nat.lt_or_ge b w.heap.size with h | h
      · exact h
      · simp [Array.getElem?_eq_none h] at this
    refine ⟨b, off, rfl, hlt, fun j u hj => ?_⟩
    have hjl : j < len := by
      have := (List.getElem?_eq_some_iff.1 hj).1
      rw [List.length_map, hnl] at this
      exact this
    have h2 := hf j hjl
    rw [Go.WideShapes.add_plain] at h2
    rw [h2, ← hj, hns]
    simp [hjl]
theorem open_strs {v : Value} {d : DataW H} {p : List MemPlace} {a : Option Addr} {len cap : Nat} (hv : v = .slice a len cap) (h : DataW.Trod enc Try.prog w base spare held 27 v d p) : ∃ ns, StrsAt w v ns := by
  obtain ⟨fuel, hf⟩ := h
  obtain ⟨v', ns, hc, hn⟩ := open_ones (g := Value.string) Try.underlying27 (by kernel_rfl) (fun h => by
    obtain ⟨a, ha, _⟩ := DataW.trod_string Try.underlying9 h
    exact ⟨a, by simpa using ha⟩) hf
  subst hv
  simp [Value.cells] at hc
  subst hc
  exact ⟨ns, hn⟩
theorem open_ints {v : Value} {d : DataW H} {p : List MemPlace} {a : Option Addr} {len cap : Nat} (hv : v = .slice a len cap) (h : DataW.Trod enc Try.prog w base spare held 38 v d p) : ∃ ns, IntsAt w v ns := by
  obtain ⟨fuel, hf⟩ := h
  obtain ⟨v', ns, hc, hn⟩ := open_ones (g := Value.int .i64) Try.underlying38 (by kernel_rfl) (fun h => by
    obtain ⟨a, ha, _⟩ := DataW.trod_int Try.underlying3 h
    exact ⟨a, by simpa using ha⟩) hf
  subst hv
  simp [Value.cells] at hc
  subst hc
  exact ⟨ns, hn⟩
theorem open_fix_val {r : Reach} {b0 : Nat} {v : Value} {d : DataW H} {p : List MemPlace} (hv : Value.okWide Try.prog w r b0 24 v) (h : DataW.Trod enc Try.prog w base spare held 24 v d p) : ∃ x : Fx, v = fxV x ∧ x.op.size ≤ maxLen := by
  obtain ⟨v0, v1, v2, y0, y1, y2, n, rfl, _, _, e0, e1, e2⟩ := open_agg3 Try.underlying24 (by kernel_rfl) (by kernel_rfl) hv h
  obtain ⟨a, ha, _, hm⟩ := DataW.trod_string Try.underlying9 e0
  obtain ⟨b, hb, _⟩ := DataW.trod_int Try.underlying3 e1
  obtain ⟨c, hc, _⟩ := DataW.trod_int Try.underlying3 e2
  simp only [List.cons.injEq, and_true] at ha hb hc
  subst ha hb hc
  exact ⟨⟨a, b, c⟩, rfl, hm⟩
end
end Go.Proofs.Ytkmgapieoedelaa
