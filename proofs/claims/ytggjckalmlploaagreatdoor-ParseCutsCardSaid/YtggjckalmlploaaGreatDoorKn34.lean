/- Texts of this seat, one behind the other: ParEb. -/
import Derived.Test.YtggjckalmlploaaGreatDoorKn26
import Derived.Test.YtggjckalmlploaaGreatDoorKn33
/- The parser: rows of slices of nodes that lie off another row. -/
set_option maxRecDepth 100000
namespace Go.Proofs.YtggjckalmlploaaGreatDoor
open Go.Shelf Go.RowKit Go.Lib Go.Proofs.TreeMath Go.Proofs.LexMath Go.Proofs.FixMath Go.Proofs.ParMath
def LRowO (ob : Option Nat) (B : Nat) (w : World) (v : Value) (Ls : List (List Nd)) : Prop := ∃ vs : List Value, w.ownsRow B 25 1 v Ls.length vs ∧ (∀ i, i < Ls.length → NodesAt w (vs.getD i default) (Ls.getD i [])) ∧ (∀ i, i < Ls.length → (Ls.getD i []).length ≠ 0 → ∀ g, v.ownBlock = some g → Off g (vs.getD i default)) ∧ (∀ i, i < Ls.length → Fresh B (vs.getD i default)) ∧ (∀ i, i < Ls.length → (Ls.getD i []).length ≠ 0 → ∀ g, ob = some g → Off g (vs.getD i default))
section
variable {ob : Option Nat} {B : Nat} {w w' : World} {v : Value} {Ls : List (List Nd)}
theorem LRowO.row (h : LRowO ob B w v Ls) : LRow B w v Ls := by
  obtain ⟨vs, h1, h2, h3, h4, _⟩ := h
  exact ⟨vs, h1, h2, h3, h4⟩
theorem LRowO.own (h : LRowO ob B w v Ls) : w.ownsRow B 25 1 v Ls.length (Classical.choose h) := (Classical.choose_spec h).1
theorem LRow.plain (h : LRow B w v Ls) : LRowO none B w v Ls := by
  obtain ⟨vs, h1, h2, h3, h4⟩ := h
  exact ⟨vs, h1, h2, h3, h4, fun _ _ _ _ h => by cases h⟩
theorem LRowO.form (h : LRowO ob B w v Ls) : ∃ q c, v = .slice q Ls.length c := h.row.form
theorem LRowO.bar {p : Nat} (h : LRowO ob B w v Ls) (hp : p < B) (hn : NoStr p w) (b : Bar p w w') : LRowO ob B w' v Ls := by
  obtain ⟨vs, h1, h2, h3⟩ := h
  refine ⟨vs, World.ownsRow.keep h1 fun g hg => ?_, fun i hi => (h2 i hi).bar hn b, h3⟩
  have := World.ownsRow.there h1 hg
  exact b.block g this.2 (by omega)
theorem LRowO.below (h : LRowO ob B w v Ls) (b : Below w.heap.size w w') : LRowO ob B w' v Ls := by
  obtain ⟨vs, h1, h2, h3⟩ := h
  exact ⟨vs, World.ownsRow.keep h1 fun g hg => b.block g (World.ownsRow.there h1 hg).2, fun i hi => (h2 i hi).below b, h3⟩
/-- The other row has grown. -/
theorem LRowO.grow {ob' : Option Nat} {e size n : Nat} {u : Value} {xs : List Value} (h : LRowO u.ownBlock B w v Ls) (hu : w.ownsRow B e size u n xs) (he : e ≠ 25) (hg : w.grownBy w' u.ownBlock) (ho : ob' = u.ownBlock ∨ ob' = some w.heap.size) : LRowO ob' B w' v Ls := by
  obtain ⟨vs, h1, h2, h3, h4, h5⟩ := h
  refine ⟨vs, World.ownsRow.kept h1 hg (rows_apart hu h1 he), fun i hi => slice_grown (h2 i hi) hg fun k hk h0 => h5 i hi h0 k hk, h3, h4, fun i hi h0 g hgg => ?_⟩
  rcases ho with rfl | rfl
  · exact h5 i hi h0 g hgg
  · simp only [Option.some.injEq] at hgg
    subst hgg
    exact nodes_off (h2 i hi) h0
end
def OpRow (B : Nat) (w : World) (v : Value) (l : List Tok) : Prop := w.ownsRow B 45 4 v l.length (Lx.tokCells l)
section
variable {B : Nat} {w w' : World} {v : Value} {l : List Tok}
theorem OpRow.nil (B : Nat) (w : World) : OpRow B w (.slice none 0 0) [] := World.ownsRow_nil _ _ _ _
theorem OpRow.form (h : OpRow B w v l) : ∃ q c, v = .slice q l.length c := by
  rcases h.2 with ⟨rfl, e⟩ | ⟨g, cap, cur, rfl, _⟩
  · exact ⟨none, 0, by rw [e]⟩
  · exact ⟨_, _, rfl⟩
theorem OpRow.bar {p : Nat} (h : OpRow B w v l) (hp : p < B) (b : Bar p w w') : OpRow B w' v l := World.ownsRow.keep h fun g hg => b.block g (World.ownsRow.there h hg).2 (by have := (World.ownsRow.there h hg).1; omega)
theorem OpRow.below (h : OpRow B w v l) (b : Below w.heap.size w w') : OpRow B w' v l := World.ownsRow.keep h fun g hg => b.block g (World.ownsRow.there h hg).2
theorem OpRow.toks (h : OpRow B w v l) : ToksA w v l := SliceAt.of_owns h
end
/-- One more is appended. -/
theorem wpList_pushO {ops : Array Oper} {rest : List Oper} {o : Oper} {a : Act} {w : World} {Q : Exit → Act → World → Prop} (hgd : o.guard = none) (s x : Operand)
    (ho : o.op = .call { callee := .builtin .append, args := #[s, x], argTypes := #[38, 38] }) (B : Nat) (v : Value) (Ls : List (List Nd)) (hs : a.eval s = v) (ob : Option Nat) (hrow : LRowO ob B w v Ls) (b : Nat) (hx : a.eval x = .slice (some ⟨b, 0, none⟩) 1 1)
    (u : Value) (ns : List Nd) (hu : w.cell? ⟨b, 0, none⟩ = some u) (hn : NodesAt w u ns) (hoff : ns.length ≠ 0 → ∀ g, v.ownBlock = some g → Off g u) (hfr : Fresh B u) (hofo : ns.length ≠ 0 → ∀ g, ob = some g → Off g u) (hlen : Ls.length ≤ 100000) (hB : B ≤ w.heap.size)
    (h : ∀ p' cap' w', LRowO ob B w' (.slice p' (Ls.length + 1) cap') (Ls ++ [ns]) → Below B w w' → w.grownBy w' v.ownBlock → wpList Tryz.prog ops Q rest (a.put o.dst (.slice p' (Ls.length + 1) cap')) w') : wpList Tryz.prog ops Q (o :: rest) a w := by
  obtain ⟨i0, hi, hz, hsz, hby⟩ := infoNodes
  obtain ⟨vs, h1, h2, h3, h5, h6⟩ := hrow
  have hu1 : u.oneCell' = true := by
    obtain ⟨_, q, c, rfl, _⟩ := hn
    rfl
  refine wpList_append_any w hgd s x 38 ho B 25 i0 (.slice none 0 0) 1 24 Tryz.underlying38 hi hz hsz hby rfl (by decide) v Ls.length vs hs h1 (some ⟨b, 0, none⟩) 1 1 [u] hx rfl (fun _ => ⟨_, rfl, fun j y hj => ?_⟩) (fun y hy => ?_) (by unfold maxLen; omega) (by omega) hB ?_
  · obtain rfl : j = 0 := by
      rcases j with _ | j
      · rfl
      · simp at hj
    simp only [List.getElem?_cons_zero, Option.some.injEq] at hj
    rw [Go.WideShapes.add_plain, ← hj]
    exact hu
  · simp only [List.mem_singleton] at hy
    rw [hy]; exact hu1
  · intro p' cap' w' hown hgrow hblk
    have hvl : vs.length = Ls.length := by have := h1.1; omega
    have hbel : Below B w w' := (Below.refl B w).grown hgrow hB fun k hk => (World.ownsRow.there h1 hk).1
    refine h p' cap' w' ⟨vs ++ [u], by simpa using hown, fun i hi => ?_, fun i hi h0 g hg => ?_, fun i hi => ?_, fun i hi h0 g hg => ?_⟩ hbel hgrow
    · rw [List.length_append, List.length_singleton] at hi
      by_cases hil : i < Ls.length
      · have e1 : (vs ++ [u]).getD i default = vs.getD i default := by rw [List.getD_eq_getElem?_getD, List.getElem?_append_left (by omega), ← List.getD_eq_getElem?_getD]
        have e2 : (Ls ++ [ns]).getD i [] = Ls.getD i [] := by rw [List.getD_eq_getElem?_getD, List.getElem?_append_left hil, ← List.getD_eq_getElem?_getD]
        rw [e1, e2]
        exact slice_grown (h2 i hil) hgrow fun k hk h0 => h3 i hil h0 k hk
      · obtain rfl : i = Ls.length := by omega
        have e1 : (vs ++ [u]).getD Ls.length default = u := by rw [List.getD_eq_getElem?_getD, List.getElem?_append_right (by omega), hvl]; simp
        have e2 : (Ls ++ [ns]).getD Ls.length [] = ns := by rw [List.getD_eq_getElem?_getD, List.getElem?_append_right (Nat.le_refl _)]; simp
        rw [e1, e2]
        exact slice_grown hn hgrow fun k hk h0 => hoff h0 k hk
    · rw [List.length_append, List.length_singleton] at hi
      rw [hg] at hblk
      have hcase : v.ownBlock = some g ∨ g = w.heap.size := by
        rcases hblk with e | e
        · exact .inl e.symm
        · exact .inr (Option.some.inj e)
      have key : ∀ y ms, NodesAt w y ms → ms.length ≠ 0 → (∀ k, v.ownBlock = some k → Off k y) → Off g y := fun y ms hy h0 hk => by
        rcases hcase with e | rfl
        · exact hk g e
        · exact nodes_off hy h0
      by_cases hil : i < Ls.length
      · have e1 : (vs ++ [u]).getD i default = vs.getD i default := by rw [List.getD_eq_getElem?_getD, List.getElem?_append_left (by omega), ← List.getD_eq_getElem?_getD]
        have e2 : (Ls ++ [ns]).getD i [] = Ls.getD i [] := by rw [List.getD_eq_getElem?_getD, List.getElem?_append_left hil, ← List.getD_eq_getElem?_getD]
        rw [e2] at h0
        rw [e1]
        exact key _ _ (h2 i hil) h0 (h3 i hil h0)
      · obtain rfl : i = Ls.length := by omega
        have e1 : (vs ++ [u]).getD Ls.length default = u := by rw [List.getD_eq_getElem?_getD, List.getElem?_append_right (by omega), hvl]; simp
        have e2 : (Ls ++ [ns]).getD Ls.length [] = ns := by rw [List.getD_eq_getElem?_getD, List.getElem?_append_right (Nat.le_refl _)]; simp
        rw [e2] at h0
        rw [e1]
        exact key _ _ hn h0 (hoff h0)
    · rw [List.length_append, List.length_singleton] at hi
      by_cases hil : i < Ls.length
      · have e1 : (vs ++ [u]).getD i default = vs.getD i default := by rw [List.getD_eq_getElem?_getD, List.getElem?_append_left (by omega), ← List.getD_eq_getElem?_getD]
        rw [e1]
        exact h5 i hil
      · obtain rfl : i = Ls.length := by omega
        have e1 : (vs ++ [u]).getD Ls.length default = u := by rw [List.getD_eq_getElem?_getD, List.getElem?_append_right (by omega), hvl]; simp
        rw [e1]
        exact hfr
    · rw [List.length_append, List.length_singleton] at hi
      by_cases hil : i < Ls.length
      · have e1 : (vs ++ [u]).getD i default = vs.getD i default := by rw [List.getD_eq_getElem?_getD, List.getElem?_append_left (by omega), ← List.getD_eq_getElem?_getD]
        have e2 : (Ls ++ [ns]).getD i [] = Ls.getD i [] := by rw [List.getD_eq_getElem?_getD, List.getElem?_append_left hil, ← List.getD_eq_getElem?_getD]
        rw [e2] at h0
        rw [e1]
        exact h6 i hil h0 g hg
      · obtain rfl : i = Ls.length := by omega
        have e1 : (vs ++ [u]).getD Ls.length default = u := by rw [List.getD_eq_getElem?_getD, List.getElem?_append_right (by omega), hvl]; simp
        have e2 : (Ls ++ [ns]).getD Ls.length [] = ns := by rw [List.getD_eq_getElem?_getD, List.getElem?_append_right (Nat.le_refl _)]; simp
        rw [e2] at h0
        rw [e1]
        exact hofo h0 g hg
end Go.Proofs.YtggjckalmlploaaGreatDoor
