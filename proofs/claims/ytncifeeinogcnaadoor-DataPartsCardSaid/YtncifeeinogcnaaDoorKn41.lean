/- Texts of this seat, one behind the other: Open, OpD. -/
import Derived.Test.YtncifeeinogcnaaDoorKn01
import Derived.OpenShut
import Derived.ShutString
import Derived.ChangeOld
import Derived.Deep.Slices
import Derived.Deep.Fields
import Derived.Lib.SmallJoins
import Derived.Test.YtncifeeinogcnaaDoorKn10
/- What the arguments hold: slices of nodes, and slices of such slices. -/
set_option maxRecDepth 100000
namespace Go.Proofs.YtncifeeinogcnaaDoor
open Go.ChangeShapes Go.WideShapes Go.RowKit Go.Deep
section
variable {H : Type} {enc : TypeId × Value → H} {w : World} {base : Nat} {spare : Nat → Bool} {held : Bool}
theorem open_node {fuel : Nat} {cs : List Value} {x : DataW H × List MemPlace} (h : DataW.trod enc Tryd.prog w base spare held fuel 42 cs = some x) : ∃ nd : Nd, cs = nd.cells := by
  obtain ⟨xs, n, _, _, hl, hxl, hf⟩ := DataW.trod_struct Tryd.underlying42 h
  have h4 : Tryd.prog.cellsOf 42 = 4 := by kernel_rfl
  have c35 : Tryd.prog.cellsOf 40 = 1 := by kernel_rfl
  have c9 : Tryd.prog.cellsOf 9 = 1 := by kernel_rfl
  have c2 : Tryd.prog.cellsOf 2 = 1 := by kernel_rfl
  have c3 : Tryd.prog.cellsOf 3 = 1 := by kernel_rfl
  rw [h4] at hl
  match cs, hl, xs, hxl with
  | [v0, v1, v2, v3], _, [y0, y1, y2, y3], _ =>
    have e0 := hf 0 _ rfl
    have e1 := hf 1 _ rfl
    have e2 := hf 2 _ rfl
    have e3 := hf 3 _ rfl
    try simp only [c35] at e0
    try simp only [c9] at e1
    try simp only [c2] at e2
    try simp only [c3] at e3
    obtain ⟨a, ha, _⟩ := DataW.trod_int Tryd.underlying40 (show DataW.trod enc Tryd.prog w base spare held n 40 [v0] = some y0 from e0)
    obtain ⟨b, hb, _⟩ := DataW.trod_string Tryd.underlying9 (show DataW.trod enc Tryd.prog w base spare held n 9 [v1] = some y1 from e1)
    obtain ⟨c, hc, _⟩ := DataW.trod_int Tryd.underlying2 (show DataW.trod enc Tryd.prog w base spare held n 2 [v2] = some y2 from e2)
    obtain ⟨d, hd, _⟩ := DataW.trod_int Tryd.underlying3 (show DataW.trod enc Tryd.prog w base spare held n 3 [v3] = some y3 from e3)
    simp only [List.cons.injEq, and_true] at ha hb hc hd
    subst ha hb hc hd
    exact ⟨⟨a, b, c, d⟩, rfl⟩
theorem open_nodes_cells {fuel : Nat} {cs : List Value} {x : DataW H × List MemPlace} (h : DataW.trod enc Tryd.prog w base spare held fuel 36 cs = some x) : ∃ v ns, cs = [v] ∧ NodesAt w v ns := by
  have h4 : Tryd.prog.cellsOf 42 = 4 := by kernel_rfl
  rcases open_slice Tryd.underlying36 h with ⟨rfl, _⟩ | ⟨a, len, cap, m, n, D, Pl, rfl, hb, hl, hm, hmm, _, hi⟩
  · exact ⟨_, [], rfl, SliceAt.nil w 4⟩
  · have hlm : len ≤ m := by rw [hmm]; split <;> omega
    have hex : ∀ i, i < len → ∃ nd : Nd, ∀ j, j < 4 → w.cell? ((a.add (i * 4)).add j) = nd.cells[j]? := by
      intro i hil
      obtain ⟨cs', h1, h2⟩ := hi i (by omega)
      obtain ⟨nd, rfl⟩ := open_node h2
      rw [h4] at h1
      exact ⟨nd, fun j hj => (World.cells?_some h1).2.2 j hj⟩
    obtain ⟨f, hf⟩ := choose_lt hex
    obtain ⟨ns, hns⟩ : ∃ ns, ns = (List.range len).map f := ⟨_, rfl⟩
    have hnl : ns.length = len := by simp [hns]
    have hget : ∀ i, i < len → ns.getD i default = f i := by
      intro i hil
      rw [hns, List.getD_eq_getElem?_getD]
      simp [hil]
    refine ⟨_, ns, rfl, length_nodeCells ns, some a, cap, by rw [hnl], by omega, hm, fun h0 => ?_⟩
    have hp : 0 < len := by omega
    have hz := hf 0 hp 0 (by omega)
    obtain ⟨b, off, spot⟩ := a
    have hspot : spot = none := by
      have : w.cell? ⟨b, off, spot⟩ = some (.int .i64 (f 0).kind) := by simpa [Addr.add, Nd.cells] using hz
      exact World.cell?_spot this
    subst hspot
    have hlt : b < w.heap.size := by
      have : w.cell? ⟨b, off, none⟩ = some (.int .i64 (f 0).kind) := by simpa [Addr.add, Nd.cells] using hz
      unfold World.cell? at this
      rcases Nat.lt_or_ge b w.heap.size with h | h
      · exact h
      · simp [Array.getElem?_eq_none h] at this
    refine ⟨b, off, rfl, hlt, fun j u hj => ?_⟩
    have hjl : j < len * 4 := by
      have := (List.getElem?_eq_some_iff.1 hj).1
      rw [length_nodeCells, hnl] at this
      exact this
    have hq : j / 4 < len := by omega
    have hdm : j / 4 * 4 + j % 4 = j := by omega
    have h1 := nodeCells_get ns (j / 4) (by omega) (j % 4) (by omega)
    rw [hdm, hget _ hq, hj] at h1
    have h2 := hf (j / 4) hq (j % 4) (by omega)
    rw [← h1, Go.Deep.add_add, Go.WideShapes.add_plain, hdm] at h2
    exact h2
theorem open_nodes {v : Value} {d : DataW H} {p : List MemPlace} {a : Option Addr} {len cap : Nat} (hv : v = .slice a len cap) (h : DataW.Trod enc Tryd.prog w base spare held 36 v d p) : ∃ ns, NodesAt w v ns := by
  obtain ⟨fuel, hf⟩ := h
  obtain ⟨v', ns, hc, hn⟩ := open_nodes_cells hf
  subst hv
  simp [Value.cells] at hc
  subst hc
  exact ⟨ns, hn⟩
end
end Go.Proofs.YtncifeeinogcnaaDoor
/- What the arguments hold: declarations. -/
set_option maxRecDepth 100000
namespace Go.Proofs.YtncifeeinogcnaaDoor
open Go.ChangeShapes Go.WideShapes Go.RowKit Go.Deep Go.Joins
section
variable {H : Type} {enc : TypeId × Value → H} {w : World} {base : Nat} {spare : Nat → Bool} {held : Bool}
theorem oflat_len {α : Type} (f : α → List Value) (k : Nat) (hk : ∀ x, (f x).length = k) (l : List α) : (l.flatMap f).length = l.length * k := by
  induction l with
  | nil => simp
  | cons a l ih => rw [List.flatMap_cons, List.length_append, ih, hk, List.length_cons, Nat.succ_mul]; omega
theorem oflat_one {α : Type} (f : α → Value) (l : List α) : (l.flatMap fun y => [f y]) = l.map f := by
  induction l with
  | nil => rfl
  | cons a l ih => rw [List.flatMap_cons, ih]; rfl
/-- A slice of whatever elements of one kind each. -/
theorem open_rows {α : Type} [Inhabited α] (cells : α → List Value) (k : Nat) (hk : ∀ y, (cells y).length = k) (hk0 : 0 < k) (Q : α → Prop) {S E : TypeId} (hS : Tryd.prog.underlying S = some (.slice E)) (hE : Tryd.prog.cellsOf E = k)
    (hopen : ∀ {fuel : Nat} {cs : List Value} {x : DataW H × List MemPlace}, DataW.trod enc Tryd.prog w base spare held fuel E cs = some x → ∃ y : α, cs = cells y ∧ Q y)
    {fuel : Nat} {cs : List Value} {x : DataW H × List MemPlace} (h : DataW.trod enc Tryd.prog w base spare held fuel S cs = some x) : ∃ (v : Value) (ys : List α), cs = [v] ∧ SliceAt w k v ys.length (ys.flatMap cells) ∧ ∀ y ∈ ys, Q y := by
  rcases open_slice hS h with ⟨rfl, _⟩ | ⟨a, len, cap, m, n, D, Pl, rfl, hb, hl, hm, hmm, _, hi⟩
  · exact ⟨_, [], rfl, SliceAt.nil w k, fun y hy => by simp at hy⟩
  · have hlm : len ≤ m := by rw [hmm]; split <;> omega
    have hex : ∀ i, i < len → ∃ y : α, Q y ∧ ∀ j, j < k → w.cell? ((a.add (i * k)).add j) = (cells y)[j]? := by
      intro i hil
      obtain ⟨cs', h1, h2⟩ := hi i (by omega)
      obtain ⟨y, rfl, hq⟩ := hopen h2
      rw [hE] at h1
      exact ⟨y, hq, fun j hj => (World.cells?_some h1).2.2 j hj⟩
    obtain ⟨f, hf⟩ := choose_lt hex
    obtain ⟨ys, hns⟩ : ∃ ys, ys = (List.range len).map f := ⟨_, rfl⟩
    have hnl : ys.length = len := by simp [hns]
    have hget : ∀ i, i < len → ys.getD i default = f i := by
      intro i hil
      rw [hns, List.getD_eq_getElem?_getD]
      simp [hil]
    refine ⟨_, ys, rfl, ⟨oflat_len cells k hk ys, some a, cap, by rw [hnl], by omega, hm, fun h0 => ?_⟩, fun y hy => ?_⟩
    · have hp : 0 < len := by omega
      have hz := (hf 0 hp).2 0 (by omega)
      obtain ⟨u, hu⟩ : ∃ u, (cells (f 0))[0]? = some u := ⟨_, List.getElem?_eq_getElem (by rw [hk]; exact hk0)⟩
      rw [hu] at hz
      obtain ⟨b, off, spot⟩ := a
      have hspot : spot = none := World.cell?_spot (by simpa [Addr.add] using hz)
      subst hspot
      have hlt : b < w.heap.size := by
        have : w.cell? ⟨b, off, none⟩ = some u := by simpa [Addr.add] using hz
        unfold World.cell? at this
        rcases Nat.lt_or_ge b w.heap.size with h | h
        · exact h
        · simp [Array.getElem?_eq_none h] at this
      refine ⟨b, off, rfl, hlt, fun j u hj => ?_⟩
      have hjl : j < len * k := by
        have := (List.getElem?_eq_some_iff.1 hj).1
        rw [oflat_len cells k hk, hnl] at this
        exact this
      have hq : j / k < len := Nat.div_lt_of_lt_mul (by rw [Nat.mul_comm]; exact hjl)
      have hr : j % k < k := Nat.mod_lt _ hk0
      have hdm : j / k * k + j % k = j := by rw [Nat.mul_comm]; exact Nat.div_add_mod j k
      have h1 := flat_get cells k hk ys (j / k) (by omega) (j % k) hr
      rw [hdm, hget _ hq, hj] at h1
      have h2 := (hf (j / k) hq).2 (j % k) hr
      rw [← h1, Go.Deep.add_add, Go.WideShapes.add_plain, hdm] at h2
      exact h2
    · rw [hns] at hy
      obtain ⟨i, hi', rfl⟩ := List.mem_map.1 hy
      exact (hf i (List.mem_range.1 hi')).1
theorem open_lists_cells {fuel : Nat} {cs : List Value} {x : DataW H × List MemPlace} (h : DataW.trod enc Tryd.prog w base spare held fuel 31 cs = some x) : ∃ v Ls, cs = [v] ∧ ListsAt w v Ls := by
  obtain ⟨v, ys, rfl, hs, hq⟩ := open_rows (fun y : Value × List Nd => [y.1]) 1 (fun _ => rfl) (by omega) (fun y => NodesAt w y.1 y.2) (S := 31) Tryd.underlying31 (by kernel_rfl)
    (fun h => by obtain ⟨v, ns, rfl, hn⟩ := open_nodes_cells h; exact ⟨(v, ns), rfl, hn⟩) h
  refine ⟨v, ys.map (·.2), rfl, ys.map (·.1), ?_, fun i hi => ?_⟩
  · rw [List.length_map]
    rw [oflat_one] at hs
    exact hs
  · rw [List.length_map] at hi
    have := hq ys[i] (List.getElem_mem hi)
    simpa [List.getD_eq_getElem?_getD, hi] using this
theorem open_ctor {fuel : Nat} {cs : List Value} {x : DataW H × List MemPlace} (h : DataW.trod enc Tryd.prog w base spare held fuel 33 cs = some x) : ∃ c : Ct, cs = c.cells ∧ ListsAt w c.av c.args := by
  obtain ⟨y0, y1, n, _, hl, e0, e1⟩ := trod_struct2 Tryd.underlying33 h
  have h2 : Tryd.prog.cellsOf 33 = 2 := by kernel_rfl
  have c9 : Tryd.prog.cellsOf 9 = 1 := by kernel_rfl
  have c50 : Tryd.prog.cellsOf 31 = 1 := by kernel_rfl
  rw [h2] at hl
  match cs, hl with
  | [v0, v1], _ =>
    try simp only [c9] at e0
    try simp only [c50] at e1
    obtain ⟨b, hb, _⟩ := DataW.trod_string Tryd.underlying9 (show DataW.trod enc Tryd.prog w base spare held n 9 [v0] = some y0 from e0)
    obtain ⟨v, Ls, hv, hL⟩ := open_lists_cells (show DataW.trod enc Tryd.prog w base spare held n 31 [v1] = some y1 from e1)
    simp only [List.cons.injEq, and_true] at hb hv
    subst hb hv
    exact ⟨⟨b, v1, Ls⟩, rfl, hL⟩
theorem open_ctors {fuel : Nat} {cs : List Value} {x : DataW H × List MemPlace} (h : DataW.trod enc Tryd.prog w base spare held fuel 27 cs = some x) : ∃ v l, cs = [v] ∧ CtsAt w v l := by
  obtain ⟨v, ys, rfl, hs, hq⟩ := open_rows Ct.cells 2 (fun _ => rfl) (by omega) (fun c => ListsAt w c.av c.args) (S := 27) Tryd.underlying27 (by kernel_rfl) (fun h => open_ctor h) h
  exact ⟨v, ys, rfl, hs, hq⟩
theorem open_data {fuel : Nat} {cs : List Value} {x : DataW H × List MemPlace} (h : DataW.trod enc Tryd.prog w base spare held fuel 30 cs = some x) : ∃ d : Dt, cs = d.cells ∧ CtsAt w d.cv d.cons := by
  obtain ⟨xs, n, _, _, hl, hxl, hf⟩ := DataW.trod_struct Tryd.underlying30 h
  have h3 : Tryd.prog.cellsOf 30 = 3 := by kernel_rfl
  have c9 : Tryd.prog.cellsOf 9 = 1 := by kernel_rfl
  have c3 : Tryd.prog.cellsOf 3 = 1 := by kernel_rfl
  have c107 : Tryd.prog.cellsOf 27 = 1 := by kernel_rfl
  rw [h3] at hl
  match cs, hl, xs, hxl with
  | [v0, v1, v2], _, [y0, y1, y2], _ =>
    have e0 := hf 0 _ rfl
    have e1 := hf 1 _ rfl
    have e2 := hf 2 _ rfl
    try simp only [c9] at e0
    try simp only [c3] at e1
    try simp only [c107] at e2
    obtain ⟨b, hb, _⟩ := DataW.trod_string Tryd.underlying9 (show DataW.trod enc Tryd.prog w base spare held n 9 [v0] = some y0 from e0)
    obtain ⟨i, hi, _⟩ := DataW.trod_int Tryd.underlying3 (show DataW.trod enc Tryd.prog w base spare held n 3 [v1] = some y1 from e1)
    obtain ⟨v, l, hv, hL⟩ := open_ctors (show DataW.trod enc Tryd.prog w base spare held n 27 [v2] = some y2 from e2)
    simp only [List.cons.injEq, and_true] at hb hi hv
    subst hb hi hv
    exact ⟨⟨b, i, v2, l⟩, rfl, hL⟩
theorem open_datas {v : Value} {d : DataW H} {p : List MemPlace} {a : Option Addr} {len cap : Nat} (hv : v = .slice a len cap) (h : DataW.Trod enc Tryd.prog w base spare held 22 v d p) : ∃ ds, DtsAt w v ds := by
  obtain ⟨fuel, hf⟩ := h
  obtain ⟨v', ys, hc, hs, hq⟩ := open_rows Dt.cells 3 (fun _ => rfl) (by omega) (fun d => CtsAt w d.cv d.cons) (S := 22) Tryd.underlying22 (by kernel_rfl) (fun h => open_data h) hf
  subst hv
  simp [Value.cells] at hc
  subst hc
  exact ⟨ys, hs, hq⟩
theorem open_lists {v : Value} {d : DataW H} {p : List MemPlace} {a : Option Addr} {len cap : Nat} (hv : v = .slice a len cap) (h : DataW.Trod enc Tryd.prog w base spare held 31 v d p) : ∃ Ls, ListsAt w v Ls := by
  obtain ⟨fuel, hf⟩ := h
  obtain ⟨v', Ls, hc, hL⟩ := open_lists_cells hf
  subst hv
  simp [Value.cells] at hc
  subst hc
  exact ⟨Ls, hL⟩
theorem open_data_val {r : Reach} {b0 : Nat} {v : Value} {d : DataW H} {p : List MemPlace} (hv : Value.okWide Tryd.prog w r b0 30 v) (h : DataW.Trod enc Tryd.prog w base spare held 30 v d p) : ∃ x : Dt, v = x.val ∧ CtsAt w x.cv x.cons := by
  obtain ⟨v0, v1, v2, y0, y1, y2, n, rfl, _, _, e0, e1, e2⟩ := open_agg3 Tryd.underlying30 (by kernel_rfl) (by kernel_rfl) hv h
  obtain ⟨b, hb, _⟩ := DataW.trod_string Tryd.underlying9 e0
  obtain ⟨i, hi, _⟩ := DataW.trod_int Tryd.underlying3 e1
  obtain ⟨v, l, hv3, hL⟩ := open_ctors e2
  simp only [List.cons.injEq, and_true] at hb hi hv3
  subst hb hi hv3
  exact ⟨⟨b, i, v2, l⟩, rfl, hL⟩
end
end Go.Proofs.YtncifeeinogcnaaDoor
