/- Texts of this seat, one behind the other: TyG, TyH, TyI. -/
import Derived.Test.YtncifeeinogcnaaGreatDoorKn05
import Derived.Deep.RegionHeld3
import Derived.BigRegion
import Derived.Deep.RegionWith
import Derived.Deep.DeepCutAuto
import Derived.LaidEqlPtr
import Derived.Deep.CutBlock
import Derived.WalkSmall
/- A solver in a world: what is yet to be made the same, and the variables to be asked. -/
set_option maxRecDepth 100000
namespace Go.Proofs.YtncifeeinogcnaaGreatDoor
open Go.RowKit Go.Lib Go.Proofs.TreeMath

theorem run_neq_node (m n : Nd) (w : World) : (binOp .neq 58 m.val n.val).run Tryz.prog w = .ok (.bool (decide (m ≠ n))) w := by
  obtain ⟨x1, x2, x3, x4⟩ := m
  obtain ⟨y1, y2, y3, y4⟩ := n
  unfold Nd.val
  simp only
  by_cases g1 : x1 = y1
  · subst g1
    by_cases g2 : x2 = y2
    · subst g2
      by_cases g3 : x3 = y3
      · subst g3
        by_cases g4 : x4 = y4
        · subst g4
          go_simp
        · have f1 : (x4 == y4) = false := by simpa using g4
          go_simp
      · have f1 : (x3 == y3) = false := by simpa using g3
        go_simp
    · have f3 : (x2.toList == y2.toList) = false := by
        rw [beq_eq_false_iff_ne]
        intro h
        exact g2 (Go.WideShapes.bytes_inj (by simpa [ByteArray.toList_eq] using h))
      go_simp
  · have f1 : (x1 == y1) = false := by simpa using g1
    go_simp
theorem row_form {w : World} {B : Nat} {e : TypeId} {size n : Nat} {v : Value} {xs : List Value} (h : w.ownsRow B e size v n xs) : ∃ q c, v = .slice q n c := by
  rcases h.2 with ⟨rfl, e⟩ | ⟨g, cap, cur, rfl, _⟩
  · exact ⟨none, 0, by rw [e]⟩
  · exact ⟨_, _, rfl⟩
theorem row_ty {w : World} {B : Nat} {e : TypeId} {size n : Nat} {v : Value} {xs : List Value} (h : w.ownsRow B e size v n xs) {g : Nat} (hg : v.ownBlock = some g) : ∃ cur, w.heap[g]? = some (.cells cur e (0, 0)) := by
  rcases h.2 with ⟨rfl, _⟩ | ⟨g', cap, cur, rfl, _, hg', _⟩
  · simp [Value.ownBlock] at hg
  · simp only [Value.ownBlock, Option.some.injEq] at hg
    subst hg
    exact ⟨cur, hg'⟩
def eqCells (op : List (Nat × Nat)) : List Value := op.flatMap fun p => [pv p.1, pv p.2]
theorem eqCells_append (a b : List (Nat × Nat)) : eqCells (a ++ b) = eqCells a ++ eqCells b := by simp [eqCells]
theorem Frm.one {B pb : Nat} {a w : World} (h : Below B a w) (i : Nat) (u : Value) : Frm (fun k => k = pb) B a (w.setCell ⟨pb, i, none⟩ u) :=
  (Frm.of_below h).trans ⟨rfl, rfl, rfl, by simp [World.setCell], fun k _ hn => Below.heap_setCell _ _ _ _ hn⟩
def SS.Dp (S : SS) (pb k : Nat) : Prop := k ∈ S.dom ∨ k = pb
theorem TW.frm1 {B : Nat} {w w' : World} {S : SS} {pb : Nat} {cs : Array Value} (h : TW B w S) (hp : w.heap[pb]? = some (.cells cs 128 (0, 0))) (f : Frm (fun k => k = pb) B w w') : TW B w' S := by
  obtain ⟨y, k⟩ := h
  refine ⟨y, k.lead, k.bin, fun x hx => ?_, k.kin, Nat.le_trans k.fit f.size⟩
  obtain ⟨h1, kv, h2, h3⟩ := k.blk x hx
  refine ⟨h1, kv, (f.block x h1 (by rintro rfl; rw [hp] at h2; simp at h2)).trans h2, fun e => (h3 e).of_block fun g hg => f.block g ((h3 e).k.2 g hg) ?_⟩
  rintro rfl
  obtain ⟨cur, hc⟩ := (h3 e).ty hg
  rw [hp] at hc; simp at hc
theorem TW.fit {B : Nat} {w : World} {S : SS} (h : TW B w S) : B ≤ w.heap.size := by obtain ⟨y, k⟩ := h; exact k.fit
structure SV (B pb : Nat) (w : World) (S : SS) (bd : List Nat) (op : List (Nat × Nat)) : Prop where
  tw : TW B w S
  ex : ∃ ov bv, w.heap[pb]? = some (.cells #[ov, bv] 128 (0, 0)) ∧ w.ownsRow B 132 2 ov op.length (eqCells op) ∧ w.ownsRow B 93 1 bv bd.length (bd.map pv)
theorem info97 : ∃ i, Tryz.prog.info? 132 = some i ∧ i.zero = some (.agg #[.pointer none, .pointer none]) ∧ i.size = 2 ∧ i.bytes = 16 := info_of' (by kernel_rfl)
theorem info79 : ∃ i, Tryz.prog.info? 93 = some i ∧ i.zero = some (.pointer none) ∧ i.size = 1 ∧ i.bytes = 8 := info_of' (by kernel_rfl)
/-- One more to ask. -/
theorem SV.ask {B pb : Nat} {w w1 w2 : World} {S : SS} {bd : List Nat} {op : List (Nat × Nat)} (h : SV B pb w S bd op) {ov bv nv : Value} (hp : w.heap[pb]? = some (.cells #[ov, bv] 128 (0, 0))) (ho : w.ownsRow B 132 2 ov op.length (eqCells op))
    (hb : w.ownsRow B 93 1 bv bd.length (bd.map pv)) (b1 : Below w.heap.size w w1) (g : w1.grownBy w2 bv.ownBlock) {y : Nat} (hn : w2.ownsRow B 93 1 nv (bd.length + 1) (bd.map pv ++ [pv y])) :
    SV B pb (w2.setCell ⟨pb, 1, none⟩ nv) S (bd ++ [y]) op ∧ Frm (fun k => k = pb) B w (w2.setCell ⟨pb, 1, none⟩ nv) := by
  have hpl : pb < w.heap.size := (Array.getElem?_eq_some_iff.1 hp).1
  have hBw : B ≤ w.heap.size := h.tw.fit
  have B2 : Below B w w2 := (b1.mono hBw).grown g (Nat.le_trans hBw b1.size) fun k e => (World.ownsRow.there hb e).1
  have B3 : Frm (fun k => k = pb) B w (w2.setCell ⟨pb, 1, none⟩ nv) := Frm.one B2 1 _
  have npb : some pb ≠ bv.ownBlock := fun e => by
    obtain ⟨cur, hc⟩ := row_ty hb e.symm
    rw [hp] at hc; simp at hc
  have hp2 : w2.heap[pb]? = some (.cells #[ov, bv] 128 (0, 0)) := (g.block pb (by have := b1.size; omega) npb).trans ((b1.block pb hpl).trans hp)
  refine ⟨⟨h.tw.frm1 hp B3, ov, nv, ?_, ?_, ?_⟩, B3⟩
  · rw [set_blk hp2]; rfl
  · refine World.ownsRow.keep ho fun k hk => ?_
    obtain ⟨cur, hc⟩ := row_ty ho hk
    have hkl := (World.ownsRow.there ho hk).2
    have n1 : k ≠ pb := by rintro rfl; rw [hp] at hc; simp at hc
    have n2 : some k ≠ bv.ownBlock := fun e => by
      obtain ⟨cur2, hc2⟩ := row_ty hb e.symm
      rw [hc] at hc2; simp at hc2
    rw [Below.heap_setCell _ _ _ _ n1, g.block k (by have := b1.size; omega) n2, b1.block k hkl]
  · have e : (bd ++ [y]).map pv = bd.map pv ++ [pv y] := by simp
    rw [e, List.length_append, List.length_singleton]
    refine World.ownsRow.keep hn fun k hk => Below.heap_setCell _ _ _ _ ?_
    rintro rfl
    obtain ⟨cur, hc⟩ := row_ty hn hk
    rw [hp2] at hc; simp at hc
/-- One more to be made the same. -/
theorem SV.open {B pb : Nat} {w w1 w2 : World} {S : SS} {bd : List Nat} {op : List (Nat × Nat)} (h : SV B pb w S bd op) {ov bv nv : Value} (hp : w.heap[pb]? = some (.cells #[ov, bv] 128 (0, 0))) (ho : w.ownsRow B 132 2 ov op.length (eqCells op))
    (hb : w.ownsRow B 93 1 bv bd.length (bd.map pv)) (b1 : Below w.heap.size w w1) (g : w1.grownBy w2 ov.ownBlock) {x y : Nat} (hn : w2.ownsRow B 132 2 nv (op.length + 1) (eqCells op ++ [pv x, pv y])) :
    SV B pb (w2.setCell ⟨pb, 0, none⟩ nv) S bd (op ++ [(x, y)]) ∧ Frm (fun k => k = pb) B w (w2.setCell ⟨pb, 0, none⟩ nv) := by
  have hpl : pb < w.heap.size := (Array.getElem?_eq_some_iff.1 hp).1
  have hBw : B ≤ w.heap.size := h.tw.fit
  have B2 : Below B w w2 := (b1.mono hBw).grown g (Nat.le_trans hBw b1.size) fun k e => (World.ownsRow.there ho e).1
  have B3 : Frm (fun k => k = pb) B w (w2.setCell ⟨pb, 0, none⟩ nv) := Frm.one B2 0 _
  have npb : some pb ≠ ov.ownBlock := fun e => by
    obtain ⟨cur, hc⟩ := row_ty ho e.symm
    rw [hp] at hc; simp at hc
  have hp2 : w2.heap[pb]? = some (.cells #[ov, bv] 128 (0, 0)) := (g.block pb (by have := b1.size; omega) npb).trans ((b1.block pb hpl).trans hp)
  refine ⟨⟨h.tw.frm1 hp B3, nv, bv, ?_, ?_, ?_⟩, B3⟩
  · rw [set_blk hp2]; rfl
  · have e : eqCells (op ++ [(x, y)]) = eqCells op ++ [pv x, pv y] := by simp [eqCells]
    rw [e, List.length_append, List.length_singleton]
    refine World.ownsRow.keep hn fun k hk => Below.heap_setCell _ _ _ _ ?_
    rintro rfl
    obtain ⟨cur, hc⟩ := row_ty hn hk
    rw [hp2] at hc; simp at hc
  · refine World.ownsRow.keep hb fun k hk => ?_
    obtain ⟨cur, hc⟩ := row_ty hb hk
    have hkl := (World.ownsRow.there hb hk).2
    have n1 : k ≠ pb := by rintro rfl; rw [hp] at hc; simp at hc
    have n2 : some k ≠ ov.ownBlock := fun e => by
      obtain ⟨cur2, hc2⟩ := row_ty ho e.symm
      rw [hc] at hc2; simp at hc2
    rw [Below.heap_setCell _ _ _ _ n1, g.block k (by have := b1.size; omega) n2, b1.block k hkl]
/-- What is written in terms leaves the solver as it is. -/
theorem SV.terms {B pb : Nat} {w w' : World} {S S2 : SS} {bd : List Nat} {op : List (Nat × Nat)} (h : SV B pb w S bd op) (ht : TW B w' S2) (he : ∀ k, (B ≤ k ∨ k = pb) → k < w.heap.size → w'.heap[k]? = w.heap[k]?) : SV B pb w' S2 bd op := by
  obtain ⟨ov, bv, hp, ho, hb⟩ := h.ex
  have hpl : pb < w.heap.size := (Array.getElem?_eq_some_iff.1 hp).1
  exact ⟨ht, ov, bv, (he pb (.inr rfl) hpl).trans hp, World.ownsRow.keep ho fun k hk => he k (.inl (World.ownsRow.there ho hk).1) (World.ownsRow.there ho hk).2, World.ownsRow.keep hb fun k hk => he k (.inl (World.ownsRow.there hb hk).1) (World.ownsRow.there hb hk).2⟩
end Go.Proofs.YtncifeeinogcnaaGreatDoor
/- The contract of unite. -/
set_option maxRecDepth 100000
namespace Go.Proofs.YtncifeeinogcnaaGreatDoor
open Go.RowKit Go.Lib Go.Proofs.TreeMath

def SS.gr (S : SS) (tr : Nat → T) : Gr := ⟨(· ∈ S.dom), S.node, S.kids, tr⟩
theorem Leads.join {by_ : Nat → Option Nat} {X Y : Nat} (hX : by_ X = none) (hY : by_ Y = none) (hne : X ≠ Y) {a r : Nat} (h : Leads by_ a r) : Leads (fun u => if u = Y then some X else by_ u) a (if r = Y then X else r) := by
  induction h with
  | @stop a h =>
    by_cases e : a = Y
    · subst e
      rw [if_pos rfl]
      exact .step (y := X) (by simp) (.stop (by simp [hne, hX]))
    · rw [if_neg e]
      exact .stop (by simp [e, h])
  | @step a c r h k ih =>
    have e : a ≠ Y := by rintro rfl; rw [hY] at h; simp at h
    exact .step (by simp [e, h]) ih
/-- A term gives way to another one. -/
theorem TW.give {B : Nat} {w : World} {S : SS} (h : TW B w S) {X Y : Nat} (hX : X ∈ S.dom) (hY : Y ∈ S.dom) (rX : S.rep X = X) (rY : S.rep Y = Y) (hne : X ≠ Y) :
    TW B ((w.setCell ⟨Y, 5, none⟩ (.pointer (some ⟨X, 0, none⟩))).setCell ⟨Y, 4, none⟩ (.slice none 0 0)) { S with rep := merge S.rep X Y } := by
  obtain ⟨by_, k⟩ := h
  have nX := (k.none_iff X).2 rX
  have nY := (k.none_iff Y).2 rY
  have h1 : TB B (w.setCell ⟨Y, 5, none⟩ (.pointer (some ⟨X, 0, none⟩))) { S with rep := merge S.rep X Y } (fun u => if u = Y then some X else by_ u) := by
    refine k.put hY _ _ rfl rfl rfl rfl (fun x => (k.lead x).join nX nY hne) (fun x z e => ?_) (fun u hu => ⟨by simp [hu], rfl, rfl⟩) (fun kv _ _ => ⟨kv, by simp [tmCells, pvo, pv], fun e => by simp at e⟩)
    by_cases e2 : x = Y
    · simp only [e2, if_true, Option.some.injEq] at e
      subst e; exact hX
    · simp only [e2, if_false] at e
      exact k.bin x z e
  refine ⟨_, h1.put hY _ _ rfl rfl rfl rfl h1.lead h1.bin (fun u hu => ⟨rfl, rfl, rfl⟩) (fun kv _ _ => ⟨.slice none 0 0, by simp [tmCells], fun e => by simp at e⟩)⟩
/-- A variable is told to be a part. -/
theorem TW.tell {B : Nat} {w : World} {S : SS} (h : TW B w S) {X : Nat} (hX : X ∈ S.dom) (b : Bool) (wi : Nat → Bool) (h1 : wi X = b) (h2 : ∀ z, z ≠ X → wi z = S.wi z) : TW B (w.setCell ⟨X, 6, none⟩ (.bool b)) { S with wi := wi } := by
  obtain ⟨by_, k⟩ := h
  exact ⟨by_, k.put hX _ _ rfl rfl rfl rfl k.lead k.bin (fun u hu => ⟨rfl, h2 u hu, rfl⟩) (fun kv _ h3 => ⟨kv, by simp [tmCells, h1], h3⟩)⟩
theorem TW.same_wi {B : Nat} {w : World} {S : SS} (h : TW B w S) (wi : Nat → Bool) (hw : ∀ z, wi z = S.wi z) : TW B w { S with wi := wi } := by
  obtain rfl : wi = S.wi := funext hw
  exact h
structure UP (B pb : Nat) (S : SS) (tr : Nat → T) (bd : List Nat) (op : List (Nat × Nat)) (X Y : Nat) : Prop where
  ok : (S.gr tr).Ok
  hX : X ∈ S.dom
  hY : Y ∈ S.dom
  rX : S.rep X = X
  rY : S.rep Y = Y
  ne : X ≠ Y
  lo : op.length + (S.kids Y).length ≤ 1000000000
  lb : bd.length + 1 ≤ 1000000000
  hl : S.node X = S.node Y → (S.kids X).length = (S.kids Y).length
def S1 (S : SS) (tr : Nat → T) (X Y : Nat) : SS := { S with wi := wiU (S.gr tr) S.wi X Y }
def S2 (S : SS) (tr : Nat → T) (X Y : Nat) : SS := { S with rep := merge S.rep X Y, wi := wiU (S.gr tr) S.wi X Y }
def UT (B pb : Nat) (S : SS) (tr : Nat → T) (bd : List Nat) (op : List (Nat × Nat)) (X Y : Nat) (w : World) (e : Ending) (w' : World) : Prop :=
  e = .returned (.bool true) ∧ SV B pb w' (S2 S tr X Y) (bdU (S.gr tr) S.wi bd X Y) (op ++ (S.kids Y).zip (S.kids X)) ∧ Frm (S.Dp pb) B w w'
def Mid (B pb : Nat) (S : SS) (tr : Nat → T) (bd : List Nat) (op : List (Nat × Nat)) (X Y : Nat) (w wx : World) : Prop := SV B pb wx (S1 S tr X Y) (bdU (S.gr tr) S.wi bd X Y) op ∧ Frm (S.Dp pb) B w wx
theorem zip_take_succ {a b : List Nat} {k : Nat} (h1 : k < a.length) (h2 : k < b.length) : (a.zip b).take (k + 1) = (a.zip b).take k ++ [(a.getD k 0, b.getD k 0)] := by
  rw [List.take_succ_eq_append_getElem (by rw [List.length_zip]; omega), List.getElem_zip]
  simp [List.getD_eq_getElem?_getD, h1, h2]
theorem KidsAt.cellk {B : Nat} {w : World} {g n c : Nat} {ks : List Nat} (h : KidsAt B w (.slice (some ⟨g, 0, none⟩) n c) ks) (k : Nat) (hk : k < ks.length) : w.cell? ⟨g, k, none⟩ = some (.pointer (some ⟨ks.getD k 0, 0, none⟩)) := by
  have := h.1.cells (g := g) rfl k (pv (ks.getD k 0)) (by simp [List.getD_eq_getElem?_getD, hk])
  rw [Go.WideShapes.add_plain, Nat.zero_add] at this
  exact this
theorem KidsAt.form {B : Nat} {w : World} {v : Value} {ks : List Nat} (h : KidsAt B w v ks) : ∃ q c, v = .slice q ks.length c ∧ (0 < ks.length → ∃ g, q = some ⟨g, 0, none⟩ ∧ g < B) ∧ ks.length ≤ c ∧ c ≤ maxLen := by
  rcases h.1.2 with ⟨rfl, e⟩ | ⟨g, cap, cur, rfl, _, _, h1, h2, _⟩
  · exact ⟨none, 0, by rw [e], fun h => by omega, by omega, by unfold maxLen; omega⟩
  · exact ⟨_, cap, rfl, fun _ => ⟨g, rfl, h.2 g rfl⟩, h1, h2⟩
theorem TW.root {B : Nat} {w : World} {S : SS} (h : TW B w S) {x : Nat} (hx : x ∈ S.dom) (rx : S.rep x = x) : ∃ q c, w.cell? ⟨x, 4, none⟩ = some (.slice q (S.kids x).length c) ∧ KidsAt B w (.slice q (S.kids x).length c) (S.kids x) ∧ (0 < (S.kids x).length → ∃ g, q = some ⟨g, 0, none⟩ ∧ g < B) ∧ (S.kids x).length ≤ c ∧ c ≤ maxLen ∧ (∀ i, w.frozen? ⟨x, i, none⟩ = false) := by
  obtain ⟨by_, k⟩ := h
  obtain ⟨kv, _, _, _, _, c4, _, _, _, fz, hk⟩ := k.cells hx
  have hk := (hk ((k.none_iff x).2 rx)).k
  obtain ⟨q, c, rfl, h1, h2, h3⟩ := hk.form
  exact ⟨q, c, c4, hk, h1, h2, h3, fz⟩
theorem lit_cells (w : World) (cs : Array Value) (T : TypeId) : CellsIn (w.alloc (.cells cs T)) w.heap.size 0 cs.toList := fun j u hj => by
  have : (w.alloc (.cells cs T)).heap[w.heap.size]? = some (.cells cs T (0, 0)) := by show (w.heap.push _)[w.heap.size]? = _; simp
  rw [cell_of_heap this]
  simpa using hj
theorem KidsAt.frmp {B : Nat} {w w' : World} {S : SS} {pb : Nat} {cs : Array Value} (h : TW B w S) (hp : w.heap[pb]? = some (.cells cs 128 (0, 0))) {v : Value} {ks : List Nat} (k : KidsAt B w v ks) (f : Frm (S.Dp pb) B w w') : KidsAt B w' v ks := by
  obtain ⟨y, hb⟩ := h
  refine k.of_block fun g hg => f.block g (k.2 g hg) fun hd => ?_
  rcases hd with hd | rfl
  · exact hb.ne_row hd k hg rfl
  · obtain ⟨cur, hc⟩ := k.ty hg
    rw [hp] at hc; simp at hc
theorem KidsAt.frm {B : Nat} {w w' : World} {S : SS} (h : TW B w S) {v : Value} {ks : List Nat} (k : KidsAt B w v ks) (f : Frm S.D B w w') : KidsAt B w' v ks := by
  obtain ⟨y, hb⟩ := h
  exact k.of_block fun g hg => f.block g (k.2 g hg) fun hd => hb.ne_row hd k hg rfl
end Go.Proofs.YtncifeeinogcnaaGreatDoor
/- The contract of unite: what follows when one gives way to another one. -/
set_option maxRecDepth 100000
namespace Go.Proofs.YtncifeeinogcnaaGreatDoor
open Go.RowKit Go.Lib Go.Proofs.TreeMath

theorem node_cells {B : Nat} {w : World} {S : SS} (h : TW B w S) {x : Nat} (hx : x ∈ S.dom) : w.cell? ⟨x, 0, none⟩ = some (.int .i64 (S.node x).kind) ∧ w.cell? ⟨x, 1, none⟩ = some (.string (S.node x).text) ∧
    w.cell? ⟨x, 2, none⟩ = some (.int .i64 (S.node x).num) ∧ w.cell? ⟨x, 3, none⟩ = some (.int .i64 (S.node x).kids) ∧ w.cell? ⟨x, 6, none⟩ = some (.bool (S.wi x)) ∧ w.cell? ⟨x, 7, none⟩ = some (.int .i64 (S.mr x)) ∧ (∀ i, w.frozen? ⟨x, i, none⟩ = false) := by
  obtain ⟨by_, k⟩ := h
  obtain ⟨kv, a, b, c, d, _, _, f, g, fz, _⟩ := k.cells hx
  exact ⟨a, b, c, d, f, g, fz⟩
theorem info101 : ∃ j, Tryz.prog.info? 136 = some j ∧ j.size ≠ 0 := by
  obtain ⟨j, h1, h2⟩ : ∃ j, Tryz.prog.info? 136 = some j ∧ j.size = 8 := ⟨_, rfl, by kernel_rfl⟩
  exact ⟨j, h1, by omega⟩
theorem TW.blk {B : Nat} {w : World} {S : SS} (h : TW B w S) {x : Nat} (hx : x ∈ S.dom) : x < B ∧ ∃ cs, w.heap[x]? = some (.cells cs 136 (0, 0)) := by
  obtain ⟨by_, k⟩ := h
  obtain ⟨h1, kv, h2, _⟩ := k.blk x hx
  exact ⟨h1, _, h2⟩
theorem eql_terms {B : Nat} {w : World} {S : SS} (h : TW B w S) {x y : Nat} (hx : x ∈ S.dom) (hy : y ∈ S.dom) : (binOp .eql 93 (.pointer (some ⟨x, 0, none⟩)) (.pointer (some ⟨y, 0, none⟩))).run Tryz.prog w = .ok (.bool (decide (x = y))) w := by
  obtain ⟨j, h1, h2⟩ := info101
  by_cases e : x = y
  · subst e
    rw [decide_eq_true rfl]
    exact run_eql_ptr_same w _ Tryz.underlying93 h1
  · rw [decide_eq_false e]
    obtain ⟨_, cx, c1⟩ := h.blk hx
    obtain ⟨_, cy, c2⟩ := h.blk hy
    exact run_eql_ptr_other w (a := ⟨x, 0, none⟩) (b := ⟨y, 0, none⟩) Tryz.underlying93 h1 h2 (fun h => e (congrArg Addr.block h)) c1 c2
theorem SV.below {B pb : Nat} {w w' : World} {S : SS} {bd : List Nat} {op : List (Nat × Nat)} (h : SV B pb w S bd op) (b : Below w.heap.size w w') : SV B pb w' S bd op := by
  obtain ⟨ov, bv, hp, ho, hb⟩ := h.ex
  exact h.terms (h.tw.below (b.mono (by obtain ⟨y, k⟩ := h.tw; exact k.fit))) (fun k _ hk => b.block k hk)
theorem SV.not_term {B pb : Nat} {w : World} {S : SS} {bd : List Nat} {op : List (Nat × Nat)} (h : SV B pb w S bd op) {x : Nat} (hx : x ∈ S.dom) : ∀ j, (B ≤ j ∨ j = pb) → j ≠ x := by
  intro j hj e
  subst e
  obtain ⟨h1, cs, h2⟩ := h.tw.blk hx
  rcases hj with hj | rfl
  · omega
  · obtain ⟨ov, bv, hp, _⟩ := h.ex
    rw [hp] at h2; simp at h2
set_option maxHeartbeats 4000000 in
theorem unite_con (B pb : Nat) (S : SS) (tr : Nat → T) (bd : List Nat) (op : List (Nat × Nat)) (X Y : Nat) (w : World) (h : SV B pb w S bd op) (u : UP B pb S tr bd op X Y) (hy : yB (S.node X) (S.node Y) = false) (hk : (S.node Y).kind = 32) (hn : S.node X = S.node Y) :
    Calls Tryz.prog 114 #[pv pb, pv X, pv Y] w (UT B pb S tr bd op X Y w) := by
  have TWh := h.tw
  obtain ⟨x0, x1, x2, x3, x6, x7, xf⟩ := node_cells TWh u.hX
  obtain ⟨y0, y1, y2, y3, y6, y7, yf⟩ := node_cells TWh u.hY
  have heq := eql_terms TWh u.hX u.hY
  rw [decide_eq_false u.ne] at heq
  have YC := fun W => yields_any (S.node X) (S.node Y) W
  clear x6 x7 y6 y7
  obtain ⟨nX, hnX⟩ : ∃ n, n = S.node X := ⟨_, rfl⟩
  obtain ⟨nY, hnY⟩ : ∃ n, n = S.node Y := ⟨_, rfl⟩
  rw [← hnX] at x0 x1 x2 x3
  rw [← hnY] at y0 y1 y2 y3
  rw [← hnX, ← hnY] at hy YC
  unfold Nd.val at YC
  rw [show YRet nX nY = (fun w e w' => e = .returned (.bool false) ∧ Below w.heap.size w w') by unfold YRet; rw [hy]] at YC
  have YC := Lib.hid YC
  rw [← hnX, ← hnY] at hn
  rw [← hnY] at hk
  have HN0 := Lib.hid hn
  have HK := Lib.hid hk
  clear hk hn
  have HX := Lib.hid hnX
  have HY := Lib.hid hnY
  have H := Lib.hid h
  have U := Lib.hid u
  clear h u hnX hnY hy TWh xf yf
  unfold pv
  go_enter Tryz.func114, Tryz.ntmps114
  go_wp2
  have x0' := cell_regrown x0
  have x1' := cell_regrown x1
  have x2' := cell_regrown x2
  have x3' := cell_regrown x3
  have y0' := cell_regrown y0
  have y1' := cell_regrown y1
  have y2' := cell_regrown y2
  have y3' := cell_regrown y3
  clear x0 x1 x2 x3 y0 y1 y2 y3
  refine wp_region_quiet_below (by kernel_rfl) (by kernel_rfl) ?_
  repeat (go_big_quiet_step ((go_at_call 131; exact Calls.regrown_of (YC.out _))))
  refine wpQuiet_nil ?_
  intro _ hw'
  obtain ⟨⟨dq, osq⟩, hw''⟩ := hw'
  subst hw''
  clear x0' x1' x2' x3' y0' y1' y2' y3' YC heq
  have BA := below_regrown w dq osq
  obtain ⟨wa, hwa⟩ : ∃ wa, wa = Sort.grow (redrawn w dq) osq := ⟨_, rfl⟩
  rw [← hwa] at BA ⊢
  clear hwa
  have HA := H.out.below BA
  obtain ⟨x0, x1, x2, x3, x6, x7, xf⟩ := node_cells HA.tw U.out.hX
  obtain ⟨y0, y1, y2, y3, y6, y7, yf⟩ := node_cells HA.tw U.out.hY
  rw [← HX.out] at x0 x1 x2 x3
  rw [← HY.out] at y0 y1 y2 y3
  have FA : Frm (S.Dp pb) B w wa := Frm.of_below (BA.mono H.out.tw.fit)
  have x6f := xf 6
  have HA := Lib.hid HA
  have FA := Lib.hid FA
  clear x7 y7 BA xf yf
  have hneq := fun W => run_neq_node nX nY W
  unfold Nd.val at hneq
  rw [decide_eq_false (by simp [HN0.out])] at hneq
  have t1 : (nY.kind == 32) = true := by simpa using HK.out
  have t2 : (nX.kind == 31) = false := by rw [HN0.out]; simp [HK.out]
  have t3 : (nY.kind == 31) = false := by simp [HK.out]
  go_upto_block 0 with fail
  go_cut [] from 23 to 97 (fun wx => Mid B pb S tr bd op X Y w wx)
  case first =>
    have kx : (S.node X).kind ≠ 31 := by rw [← HX.out, HN0.out, HK.out]; decide
    have ky : (S.node Y).kind ≠ 31 := by rw [← HY.out, HK.out]; decide
    have E : Hid (∀ m, Mid B pb S tr bd op X Y w (wa.drewN m)) := Lib.hid fun m => by
      have bd' := below_drewN (Below.refl wa.heap.size wa) m
      have e1 : bdU (S.gr tr) S.wi bd X Y = bd := by unfold bdU; rw [if_neg]; intro h; exact ky h.2.1
      unfold Mid
      rw [e1]
      refine ⟨((HA.out.below bd').terms ((HA.out.below bd').tw.same_wi _ fun z => ?_) fun _ _ _ => rfl), FA.out.trans (Frm.of_below (bd'.mono HA.out.tw.fit))⟩
      unfold wiU
      rw [if_neg]; intro h; exact kx h.2
    go_wp2_with fail
    go_quiet (fail)
    go_wp2
    go_meet
    exact E.out _
  case rest =>
    obtain ⟨hv, hf⟩ := hcut
    have TM := hv.tw
    obtain ⟨q, c, c4, hk, hq, hnc, hcm, fz⟩ := TM.root (x := Y) U.out.hY U.out.rY
    change wc.cell? ⟨Y, 4, none⟩ = some (.slice q (S.kids Y).length c) at c4
    change KidsAt B wc (.slice q (S.kids Y).length c) (S.kids Y) at hk
    change 0 < (S.kids Y).length → _ at hq
    change (S.kids Y).length ≤ c at hnc
    obtain ⟨n, hn⟩ : ∃ n, n = (S.kids Y).length := ⟨_, rfl⟩
    rw [← hn] at c4 hk hq hnc
    have HN := Lib.hid hn
    have HKY := Lib.hid hk
    have HQ := Lib.hid hq
    have HPW : Hid (∃ cs, wc.heap[pb]? = some (.cells cs 128 (0, 0))) := Lib.hid (by obtain ⟨_, _, hpw, _⟩ := hv.ex; exact ⟨_, hpw⟩)
    have HV := Lib.hid hv
    have HF := Lib.hid hf
    have HM := Lib.hid (show c ≤ 9223372036854775807 from hcm)
    have hn9 : n ≤ 9223372036854775807 := by unfold maxLen at hcm; omega
    have HLO := Lib.hid U.out.lo
    clear hn hk hq hv hf TM fz hcm FA HA x0 x1 x2 x3 y0 y1 y2 y3 x6 y6 x6f t1 t2 t3 hneq
    go_wp2
    go_loopw [89] (fun i wr => ∃ k : Nat, k ≤ n ∧ i = .int .i64 k ∧ Hid (SV B pb wr (S1 S tr X Y) (bdU (S.gr tr) S.wi bd X Y) (op ++ ((S.kids Y).zip (S.kids X)).take k)) ∧ Hid (Frm (S.Dp pb) B wc wr)) (fun i _ => n - (intOf i).toNat)
    case atStart => exact ⟨0, Nat.zero_le _, rfl, by rw [List.take_zero, List.append_nil]; exact HV.out, Frm.refl _ _ _⟩
    case round =>
      obtain ⟨k, hk, rfl, hS, hF⟩ := hrel
      by_cases hlt : k < n
      · have hlX : (S.kids X).length = n := by rw [U.out.hl (by rw [← HX.out, ← HY.out]; exact HN0.out)]; exact HN.out.symm
        obtain ⟨g, rfl, hg⟩ := HQ.out (by omega)
        have ky := (KidsAt.frmp HV.out.tw HPW.out.choose_spec HKY.out hF.out).cellk k (by rw [← HN.out]; exact hlt)
        obtain ⟨qx, cx, d4, hkx, hqx, hncx, hcmx, fzx⟩ := hS.out.tw.root (x := X) U.out.hX U.out.rX
        change wr.cell? ⟨X, 4, none⟩ = some (.slice qx (S.kids X).length cx) at d4
        change KidsAt B wr (.slice qx (S.kids X).length cx) (S.kids X) at hkx
        change 0 < (S.kids X).length → _ at hqx
        change (S.kids X).length ≤ cx at hncx
        rw [hlX] at d4 hkx hqx hncx
        obtain ⟨gx, rfl, hgx⟩ := hqx (by omega)
        have kx := hkx.cellk k (by rw [hlX]; exact hlt)
        obtain ⟨a, ha⟩ : ∃ a, a = (S.kids Y).getD k 0 := ⟨_, rfl⟩
        obtain ⟨b, hb⟩ : ∃ b, b = (S.kids X).getD k 0 := ⟨_, rfl⟩
        rw [← ha] at ky
        rw [← hb] at kx
        obtain ⟨ov, bv, hp, ho, hbv⟩ := hS.out.ex
        have p0 := cell_of_heap hp 0
        have pf := frozen_of_heap hp 0
        have hpl : pb < wr.heap.size := (Array.getElem?_eq_some_iff.1 hp).1
        have hXl : X < wr.heap.size := Nat.lt_of_lt_of_le (hS.out.tw.blk U.out.hX).1 hS.out.tw.fit
        have hgl : gx < wr.heap.size := Nat.lt_of_lt_of_le hgx hS.out.tw.fit
        simp only [List.getElem?_toArray, List.getElem?_cons_zero] at p0
        obtain ⟨qo, co, hov⟩ := row_form ho
        subst hov
        obtain ⟨no, hno⟩ : ∃ no, no = (op ++ ((S.kids Y).zip (S.kids X)).take k).length := ⟨_, rfl⟩
        have hno9 : no ≤ 1000000000 := by
          rw [hno, List.length_append, List.length_take]
          have := HLO.out
          have := HN.out
          omega
        rw [← hno] at p0 hp ho
        have SSF : Hid (∀ W, Below wr.heap.size wr W → W.cell? ⟨pb, 0, none⟩ = some (.slice qo no co) ∧ W.cell? ⟨X, 4, none⟩ = some (.slice (some ⟨gx, 0, none⟩) n cx) ∧ W.cell? ⟨gx, k, none⟩ = some (.pointer (some ⟨b, 0, none⟩)) ∧ W.frozen? ⟨pb, 0, none⟩ = false) := Lib.hid fun W hW =>
          ⟨(hW.cell (p := ⟨pb, 0, none⟩) hpl).trans p0, (hW.cell (p := ⟨X, 4, none⟩) hXl).trans d4, (hW.cell (p := ⟨gx, k, none⟩) hgl).trans kx, (hW.frozen (p := ⟨pb, 0, none⟩) hpl).trans pf⟩
        have APH : Hid (∀ W, Below wr.heap.size wr W → W.ownsRow B 132 2 (.slice qo no co) no (eqCells (op ++ ((S.kids Y).zip (S.kids X)).take k))) := Lib.hid fun W hW => World.ownsRow.keep ho fun g hg => hW.block g (World.ownsRow.there ho hg).2
        have HOL := Lib.hid (fun g (hg : (Value.slice qo no co).ownBlock = some g) => World.ownsRow.there ho hg)
        have NPB := Lib.hid (show some pb ≠ (Value.slice qo no co).ownBlock from fun e => by
          obtain ⟨cur, hc⟩ := row_ty ho e.symm
          rw [hp] at hc; simp at hc)
        have NX := Lib.hid (show some X ≠ (Value.slice qo no co).ownBlock from fun e => by
          have := (HOL.out X e.symm).1
          have := (hS.out.tw.blk U.out.hX).1
          omega)
        have NG := Lib.hid (show some gx ≠ (Value.slice qo no co).ownBlock from fun e => by
          have := (HOL.out gx e.symm).1
          omega)
        have HP := Lib.hid hp
        have HO := Lib.hid ho
        have HBV := Lib.hid hbv
        have HNO := Lib.hid hno
        have HAE := Lib.hid ha
        have HBE := Lib.hid hb
        have HLX := Lib.hid hlX
        obtain ⟨j0, j1, j2, j3, j4⟩ := info97
        have HJ := Lib.hid (And.intro j1 (And.intro j2 (And.intro j3 j4)))
        have HBw := Lib.hid (show B ≤ wr.heap.size from hS.out.tw.fit)
        have HMX := Lib.hid (show no + 1 ≤ maxLen ∧ (no + 1) * 16 ≤ 140737488355328 from ⟨by unfold maxLen; omega, by omega⟩)
        have HLC := Lib.hid (fun W => lit_cells W #[.pointer (some ⟨a, 0, none⟩), .pointer (some ⟨b, 0, none⟩)] 132)
        have hcx9 : n ≤ cx := hncx
        have fpf := fzx
        clear p0 pf hpl hXl hgl d4 kx hkx hqx hncx hcmx fzx fpf hp ho hbv hno ha hb hlX j1 j2 j3 j4 hno9
        go_wp2
        clear ky
        obtain ⟨p0, d4, kx, pf⟩ := SSF.out _ (Below.refl _ _)
        obtain ⟨p0a, d4a, kxa, pfa⟩ := SSF.out _ ((Below.refl wr.heap.size wr).alloc (Nat.le_refl _) (.cells #[.pointer (some ⟨a, 0, none⟩), .pointer (some ⟨b, 0, none⟩)] 132))
        go_region_law ((first
          | (refine step_append_any (by rfl) _ _ 125 (by rfl) B 132 j0 (.agg #[.pointer none, .pointer none]) 2 16 Tryz.underlying125 HJ.out.1 HJ.out.2.1 HJ.out.2.2.1 HJ.out.2.2.2 rfl (by decide) (.slice qo no co) no (eqCells (op ++ ((S.kids Y).zip (S.kids X)).take k)) rfl (APH.out _ (by repeat' (first | exact Below.refl _ _ | apply Below.drew | (refine Below.alloc ?_ ?_ _) | exact Nat.le_refl _ | (simp; done)))) (some ⟨wr.heap.size, 0, none⟩) 1 1 [.pointer (some ⟨a, 0, none⟩), .pointer (some ⟨b, 0, none⟩)] rfl rfl (fun _ => ⟨_, rfl, by first | exact CellsIn.at (HLC.out wr) | exact CellsIn.at (HLC.out wr.drew)⟩) (by intro u hu; simp at hu; rcases hu with rfl | rfl <;> rfl) HMX.out.1 HMX.out.2 (by have := HBw.out; simp; omega) ?_; intro p' cap' w7 hown hgrow hblk; have BW7 : Below wr.heap.size wr _ := ((Below.refl wr.heap.size wr).alloc (Nat.le_refl _) (.cells #[.pointer (some ⟨a, 0, none⟩), .pointer (some ⟨b, 0, none⟩)] 132)); have RN := Lib.hid hown; have GN := Lib.hid hgrow; have ⟨p7, d7, k7, f7⟩ : w7.cell? ⟨pb, 0, none⟩ = some (.slice qo no co) ∧ w7.cell? ⟨X, 4, none⟩ = some (.slice (some ⟨gx, 0, none⟩) n cx) ∧ w7.cell? ⟨gx, k, none⟩ = some (.pointer (some ⟨b, 0, none⟩)) ∧ w7.frozen? ⟨pb, 0, none⟩ = false := (by have s := SSF.out _ (by first | exact BW7 | exact BW7.drew); exact ⟨hgrow.cell s.1 NPB.out, hgrow.cell s.2.1 NX.out, hgrow.cell s.2.2.1 NG.out, (World.frozen?_of_block (hgrow.block pb (by first | exact Nat.lt_of_lt_of_le (Array.getElem?_eq_some_iff.1 HP.out).1 BW7.size) NPB.out)).trans s.2.2.2⟩); clear hown hgrow hblk BW7)
          | fail))
        all_goals
          obtain ⟨SO, BO⟩ := hS.out.open HP.out (by rw [← HNO.out]; exact HO.out) HBV.out (by first | exact ((Below.refl wr.heap.size wr).alloc (Nat.le_refl _) _) | exact ((Below.refl wr.heap.size wr).alloc (Nat.le_refl _) _).drew | exact ((Below.refl wr.heap.size wr).drew.alloc (Nat.le_refl _) _)) GN.out (x := a) (y := b) (by rw [← HNO.out]; exact RN.out)
          have SO := Lib.hid SO
          have BO := Lib.hid BO
          clear p7 d7 k7 f7
          go_wp2
          go_roundw
          case rel => exact ⟨k + 1, by omega, by go_num, by rw [zip_take_succ (by rw [← HN.out]; exact hlt) (by rw [HLX.out]; exact hlt), ← List.append_assoc, ← HAE.out, ← HBE.out]; exact SO.out, hF.out.trans (BO.out.mono (Nat.le_refl _) fun k _ e => .inr e)⟩
          case measure => simp [intOf]; omega
      · obtain rfl : k = n := by omega
        have et : ((S.kids Y).zip (S.kids X)).take k = (S.kids Y).zip (S.kids X) := List.take_of_length_le (by rw [List.length_zip, ← HN.out]; omega)
        rw [et] at hS
        have fzY := (node_cells hS.out.tw U.out.hY).2.2.2.2.2.2
        have f5 := fzY 5
        have f4 := fzY 4
        have c5 : ∃ v, wr.cell? ⟨Y, 5, none⟩ = some v := by
          obtain ⟨y, ky⟩ := hS.out.tw
          obtain ⟨kv, _, _, _, _, _, c5, _⟩ := ky.cells U.out.hY
          exact ⟨_, c5⟩
        have c4' : ∃ v, wr.cell? ⟨Y, 4, none⟩ = some v := by
          obtain ⟨y, ky⟩ := hS.out.tw
          obtain ⟨kv, _, _, _, _, c4, _, _⟩ := ky.cells U.out.hY
          exact ⟨_, c4⟩
        obtain ⟨v5, c5⟩ := c5
        obtain ⟨v4, c4'⟩ := c4'
        have c42 : (wr.setCell ⟨Y, 5, none⟩ (.pointer (some ⟨X, 0, none⟩))).cell? ⟨Y, 4, none⟩ = some v4 := by
          rw [World.cell?_setCell_other _ _ _ _ (by simp)]; exact c4'
        have E : Hid (UT B pb S tr bd op X Y w (.returned (.bool true)) ((wr.setCell ⟨Y, 5, none⟩ (.pointer (some ⟨X, 0, none⟩))).setCell ⟨Y, 4, none⟩ (.slice none 0 0))) := by
          have TG := hS.out.tw.give (X := X) (Y := Y) U.out.hX U.out.hY U.out.rX U.out.rY U.out.ne
          have nY := hS.out.not_term (x := Y) U.out.hY
          refine ⟨rfl, hS.out.terms TG fun j hj _ => ?_, HF.out.trans ((hF.out.setCell (x := Y) (i := 5) (.inl U.out.hY) _).setCell (x := Y) (i := 4) (.inl U.out.hY) _)⟩
          rw [Below.heap_setCell _ _ _ _ (nY j hj), Below.heap_setCell _ _ _ _ (nY j hj)]
        clear hS hF fzY et hlt
        go_wp2
        go_ret
        exact E.out
end Go.Proofs.YtncifeeinogcnaaGreatDoor
