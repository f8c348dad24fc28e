/- How many nodes the arguments hold at the most, where what is read is of a bounded bulk. -/
import Derived.Test.YtbpenjdpalhmaaaOpen2
namespace Go.Proofs.Ytbpenjdpalhmaaa
open Go.ChangeShapes Go.WideShapes Go.RowKit Go.Deep Go.Joins
section
variable {H : Type} {enc : TypeId × Value → H} {w : World} {base : Nat} {spare : Nat → Bool} {held : Bool}
theorem bulk_one (d : DataW H) : 1 ≤ Rows.uptoBulk d := by
  cases d with
  | lit l => cases l <;> simp [Rows.uptoBulk]
  | nil => simp [Rows.uptoBulk]
  | ptr d => simp [Rows.uptoBulk]
  | slice elems spare => simp [Rows.uptoBulk]
  | agg parts => simp [Rows.uptoBulk]
  | iface t d => simp [Rows.uptoBulk]
  | map entries => simp [Rows.uptoBulk]
  | held h => simp [Rows.uptoBulk]
theorem bulk_all (c : Nat) (l : List (DataW H)) (h : ∀ d ∈ l, c ≤ Rows.uptoBulk d) : c * l.length ≤ Rows.uptoBulkAll l := by
  induction l with
  | nil => simp
  | cons x l ih =>
    have h1 := h x (by simp)
    have h2 := ih fun d hd => h d (by simp [hd])
    simp only [Rows.uptoBulkAll, List.length_cons, Nat.mul_add, Nat.mul_one]
    omega
theorem bulk_part {d : DataW H} {l : List (DataW H)} (h : d ∈ l) : Rows.uptoBulk d ≤ Rows.uptoBulkAll l := by
  induction l with
  | nil => cases h
  | cons x r ih =>
    simp only [Rows.uptoBulkAll]
    cases List.mem_cons.1 h with
    | inl e => subst e; omega
    | inr e => have := ih e; omega
theorem node_bulk {fuel : Nat} {cs : List Value} {x : DataW H × List MemPlace} (h : DataW.trod enc Try.prog w base spare held fuel 38 cs = some x) : 2 ≤ Rows.uptoBulk x.1 := by
  obtain ⟨xs, n, _, hx, _, hxl, _⟩ := DataW.trod_struct Try.underlying38 h
  subst hx
  match xs, hxl with
  | [y0, y1, y2, y3], _ =>
    have := bulk_one y0.1
    simp only [Rows.uptoBulk, List.map_cons, Rows.uptoBulkAll]
    omega
theorem nodes_bulk {fuel len cap : Nat} {a : Option Addr} {x : DataW H × List MemPlace} (h : DataW.trod enc Try.prog w base spare held fuel 22 [.slice a len cap] = some x) : 2 * len ≤ Rows.uptoBulk x.1 := by
  rcases open_slice Try.underlying22 h with ⟨hc, _⟩ | ⟨ad, len2, cap2, m, n, D, Pl, hc, hb, hl, hm, hmm, hx, hi⟩
  · simp at hc
    omega
  · simp at hc
    obtain ⟨rfl, rfl, rfl⟩ := hc
    have hlm : len ≤ m := by rw [hmm]; split <;> omega
    have h2 := bulk_all 2 ((List.range len).map D) (fun d hd => by
      obtain ⟨i, hi', rfl⟩ := List.mem_map.1 hd
      obtain ⟨cs', _, ht⟩ := hi i (by have := List.mem_range.1 hi'; omega)
      exact node_bulk ht)
    rw [hx]
    simp only [Rows.uptoBulk]
    simp at h2
    omega
theorem sum_bulk : ∀ (Ls : List (List Nd)) (D : Nat → DataW H), (∀ i, i < Ls.length → 2 * (Ls.getD i []).length ≤ Rows.uptoBulk (D i)) → 2 * Ls.flatten.length ≤ Rows.uptoBulkAll ((List.range Ls.length).map D) := by
  intro Ls
  induction Ls with
  | nil => intro D _; simp
  | cons l Ls ih =>
    intro D h
    have h0 := h 0 (by simp)
    have h1 := ih (fun i => D (i + 1)) fun i hi => by simpa using h (i + 1) (by simpa using hi)
    rw [List.length_cons, List.range_succ_eq_map, List.map_cons, List.map_map]
    simp only [Rows.uptoBulkAll, List.flatten_cons, List.length_append]
    have h0' : 2 * l.length ≤ Rows.uptoBulk (D 0) := h0
    have h1' : 2 * Ls.flatten.length ≤ Rows.uptoBulkAll ((List.range Ls.length).map (D ∘ Nat.succ)) := h1
    omega
theorem lists_bulk {v : Value} {d : DataW H} {p : List MemPlace} {Ls : List (List Nd)} (hL : ListsAt w v Ls) (h : DataW.Trod enc Try.prog w base spare held 33 v d p) : 2 * Ls.flatten.length ≤ Rows.uptoBulk d := by
  obtain ⟨fuel, hf⟩ := h
  have h1 : Try.prog.cellsOf 22 = 1 := by kernel_rfl
  obtain ⟨vs, ⟨hl, q, c, rfl, _, _, hq⟩, hv⟩ := hL
  rcases open_slice Try.underlying33 hf with ⟨hc, _⟩ | ⟨ad, len2, cap2, m, n, D, Pl, hc, hb, hl2, hm, hmm, hx, hi⟩
  · simp [Value.cells] at hc
    obtain ⟨_, h0, _⟩ := hc
    have : Ls = [] := h0
    subst this
    simp
  · simp [Value.cells] at hc
    obtain ⟨rfl, rfl, rfl⟩ := hc
    have hlm : Ls.length ≤ m := by rw [hmm]; split <;> omega
    have := sum_bulk Ls D (fun i hil => by
      obtain ⟨cs', hc', ht'⟩ := hi i (by omega)
      rw [h1, Nat.mul_one] at hc'
      have hcell := (World.cells?_some hc').2.2 0 (by omega)
      have hlen := (World.cells?_some hc').2.1
      obtain ⟨b, off, hbo, _, hcc⟩ := hq (by omega)
      obtain rfl : ad = ⟨b, off, none⟩ := Option.some.inj hbo
      have hci := hcc i (vs.getD i default) (by rw [List.getD_eq_getElem?_getD, List.getElem?_eq_getElem (by omega)]; rfl)
      have hci2 : w.cell? ((⟨b, off, none⟩ : Addr).add i) = some (vs.getD i default) := by rw [Go.WideShapes.add_plain]; exact hci
      match cs', hlen with
      | [u], _ =>
        have hu : some (vs.getD i default) = some u := by
          rw [← hci2]
          simpa [Addr.add] using hcell
        obtain rfl := Option.some.inj hu
        obtain ⟨_, q2, c2, e2, _⟩ := hv i hil
        rw [e2] at ht'
        exact nodes_bulk ht')
    rw [show d = _ from congrArg Prod.fst hx]
    simp only [Rows.uptoBulk]
    omega
end
end Go.Proofs.Ytbpenjdpalhmaaa
