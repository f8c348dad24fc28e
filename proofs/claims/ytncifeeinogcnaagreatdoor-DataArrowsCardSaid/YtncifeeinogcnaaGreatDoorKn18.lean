/- Texts of this seat, one behind the other: ReA, ReC, ReD, UnD, UnE, UnG, UnH, VaA. -/
import Derived.Test.YtncifeeinogcnaaGreatDoorKn17
import Derived.Laws.EntriesVeiled
import Derived.Test.YtncifeeinogcnaaGreatDoorKn03
import Derived.Carry
import Derived.Shelf.SlIterI.Nil
import Derived.Shelf.SortM.Plain
import Derived.Shelf.SortM.SortNone
/- What Resolve's closure holds, and its contract. -/
set_option maxRecDepth 100000
namespace Go.Proofs.YtncifeeinogcnaaGreatDoor
open Go.RowKit Go.Lib Go.Maps Go.Proofs.TreeMath

/-- As much as there is room for is written. -/
structure Wr (L f L' : List Nd) : Prop where
  fits : L.length + f.length ≤ 4000 → L' = L ++ f
  over : 4000 < L.length + f.length → 4000 < L'.length
  most : L'.length ≤ max L.length 4001
theorem Wr.trans {L f L1 g L2 : List Nd} (h : Wr L f L1) (k : Wr L1 g L2) : Wr L (f ++ g) L2 := by
  refine ⟨fun e => ?_, fun e => ?_, by have := h.most; have := k.most; omega⟩
  · rw [List.length_append] at e
    have h1 := h.fits (by omega)
    rw [h1] at k
    have := k.fits (by rw [List.length_append]; omega)
    rw [this, List.append_assoc]
  · rw [List.length_append] at e
    by_cases hf : L.length + f.length ≤ 4000
    · have h1 := h.fits hf
      rw [h1] at k
      exact k.over (by rw [List.length_append]; omega)
    · have := h.over (by omega)
      exact k.over (by omega)
theorem Wr.nil (L : List Nd) : Wr L [] L := ⟨fun _ => by simp, fun e => by simpa using e, by omega⟩
theorem Wr.one {L : List Nd} (x : Nd) (h : L.length ≤ 4000) : Wr L [x] (L ++ [x]) := ⟨fun _ => rfl, fun e => by simpa using e, by rw [List.length_append]; simp; omega⟩
theorem Wr.full {L f : List Nd} (h : 4000 < L.length) : Wr L f L := ⟨fun e => by omega, fun _ => h, by omega⟩
structure WR (B C lb wb : Nat) (S : SS) (L : List Nd) (w : World) : Prop where
  tw : TW B w S
  bc : B ≤ C
  l : ∃ lv, w.heap[lb]? = some (.cells #[lv] 22 (0, 0)) ∧ w.ownsRow C 58 4 lv L.length (nodeCells L)
  wv : w.heap[wb]? = some (.cells #[.func (.func 82) #[] #[pv lb, pv wb]] 134 (0, 0))
  cl : C ≤ lb ∧ C ≤ wb ∧ C ≤ w.heap.size
/-- One node is appended. -/
theorem WR.more {B C lb wb : Nat} {S : SS} {L : List Nd} {w w1 w2 : World} (h : WR B C lb wb S L w) {lv nv : Value} (hl : w.heap[lb]? = some (.cells #[lv] 22 (0, 0))) (hrow : w.ownsRow C 58 4 lv L.length (nodeCells L)) (b1 : Below w.heap.size w w1) (g : w1.grownBy w2 lv.ownBlock) {x : Nd}
    (hn : w2.ownsRow C 58 4 nv (L.length + 1) (nodeCells L ++ x.cells)) : WR B C lb wb S (L ++ [x]) (w2.setCell ⟨lb, 0, none⟩ nv) ∧ Below C w (w2.setCell ⟨lb, 0, none⟩ nv) := by
  have lt_of : ∀ {g : Nat} {o : Obj}, w.heap[g]? = some o → g < w.heap.size := fun hg => (Array.getElem?_eq_some_iff.1 hg).1
  have b2 : Below C w w2 := (b1.mono h.cl.2.2).grown g (Nat.le_trans h.cl.2.2 b1.size) fun k e => (World.ownsRow.there hrow e).1
  have b3 : Below C w (w2.setCell ⟨lb, 0, none⟩ nv) := b2.setCell h.cl.1 _
  have ne : ∀ {k : Nat} {cs : Array Value} {T0 : TypeId}, w.heap[k]? = some (.cells cs T0 (0, 0)) → T0 ≠ 58 → some k ≠ lv.ownBlock := fun hk ht e => by
    obtain ⟨cur, hc⟩ := row_ty hrow e.symm
    rw [hk] at hc
    simp only [Option.some.injEq, Obj.cells.injEq] at hc
    exact ht hc.2.1
  have at2 : ∀ {k : Nat} {cs : Array Value} {T0 : TypeId}, w.heap[k]? = some (.cells cs T0 (0, 0)) → T0 ≠ 58 → w2.heap[k]? = some (.cells cs T0 (0, 0)) := fun hk ht => (g.block _ (Nat.lt_of_lt_of_le (lt_of hk) b1.size) (ne hk ht)).trans ((b1.block _ (lt_of hk)).trans hk)
  have hl2 := at2 hl (by decide)
  have nwl : wb ≠ lb := by rintro rfl; have := h.wv; rw [hl] at this; simp at this
  refine ⟨⟨h.tw.below (b3.mono h.bc), h.bc, ⟨nv, by rw [set_blk hl2]; rfl, ?_⟩, ?_, ⟨h.cl.1, h.cl.2.1, Nat.le_trans h.cl.2.2 b3.size⟩⟩, b3⟩
  · have e : nodeCells (L ++ [x]) = nodeCells L ++ x.cells := by simp [nodeCells]
    rw [e, List.length_append, List.length_singleton]
    refine World.ownsRow.keep hn fun k hk => Below.heap_setCell _ _ _ _ ?_
    show k ≠ lb
    rintro rfl
    obtain ⟨cur, hc⟩ := row_ty hn hk
    rw [hl2] at hc; simp at hc
  · rw [Below.heap_setCell _ _ _ _ nwl]; exact at2 h.wv (by decide)
end Go.Proofs.YtncifeeinogcnaaGreatDoor
/- Resolve: what is written of a list of nodes. -/
set_option maxRecDepth 100000
namespace Go.Proofs.YtncifeeinogcnaaGreatDoor
open Go.RowKit Go.Lib Go.Maps Go.Proofs.TreeMath

def rs1 (s : Int → T) (n : Nd) : List Nd := if n.kind = 31 then flatT (s n.num) else [n]
/-- Nodes with what is put in the place of variables. -/
def rs (s : Int → T) (t : List Nd) : List Nd := t.flatMap (rs1 s)
theorem rs_append (s : Int → T) (a b : List Nd) : rs s (a ++ b) = rs s a ++ rs s b := by simp [rs]
theorem okF_wv (f : F) : okF f → wv f := by
  induction f with
  | nil => intro _; trivial
  | cons n k r hk hr =>
    rintro ⟨h1, h2, h3⟩
    refine ⟨fun e => ?_, hk h2, hr h3⟩
    rcases h1 with ⟨_, a, _, b⟩ | ⟨a, _⟩
    · exact ⟨a, b⟩
    · rw [a] at e; exact absurd e (by decide)
/-- As much as there is room for was written of the first nodes. -/
structure Wq (i : Nat) (f L : List Nd) : Prop where
  fits : f.length ≤ 4000 → L = f
  over : 4000 < f.length → 4000 < L.length
  most : L.length ≤ 4001 + i
theorem Wq.nil : Wq 0 [] [] := ⟨fun _ => rfl, fun h => by simp at h, by simp⟩
theorem Wq.call {i : Nat} {f L g L2 : List Nd} (h : Wq i f L) (k : Wr L g L2) : Wq (i + 1) (f ++ g) L2 := by
  refine ⟨fun e => ?_, fun e => ?_, by have := h.most; have := k.most; omega⟩
  · rw [List.length_append] at e
    have h1 := h.fits (by omega)
    rw [h1] at k
    exact k.fits (by omega)
  · rw [List.length_append] at e
    by_cases hf : f.length ≤ 4000
    · have h1 := h.fits hf
      rw [h1] at k
      exact k.over (by omega)
    · have := h.over (by omega)
      exact k.over (by omega)
theorem Wq.app {i : Nat} {f L : List Nd} (h : Wq i f L) (x : Nd) : Wq (i + 1) (f ++ [x]) (L ++ [x]) := by
  refine ⟨fun e => ?_, fun e => ?_, by rw [List.length_append]; have := h.most; simp; omega⟩
  · rw [List.length_append] at e
    rw [h.fits (by omega)]
  · rw [List.length_append, List.length_singleton] at e ⊢
    by_cases hf : f.length ≤ 4000
    · rw [h.fits hf]; exact e
    · have := h.over (by omega); omega
theorem WR.below {B C lb wb : Nat} {S : SS} {L : List Nd} {w w' : World} (h : WR B C lb wb S L w) (b : Below w.heap.size w w') : WR B C lb wb S L w' := by
  obtain ⟨lv, hl, hrow⟩ := h.l
  have lt_of : ∀ {g : Nat} {o : Obj}, w.heap[g]? = some o → g < w.heap.size := fun hg => (Array.getElem?_eq_some_iff.1 hg).1
  exact ⟨h.tw.below (b.mono (Nat.le_trans h.bc h.cl.2.2)), h.bc, ⟨lv, (b.block lb (lt_of hl)).trans hl, World.ownsRow.keep hrow fun g hg => b.block g (World.ownsRow.there hrow hg).2⟩, (b.block wb (lt_of h.wv)).trans h.wv, ⟨h.cl.1, h.cl.2.1, Nat.le_trans h.cl.2.2 b.size⟩⟩
theorem take_one (t : List Nd) (i : Nat) (hi : i < t.length) : t.take (i + 1) = t.take i ++ [t.getD i default] := by
  rw [List.take_succ_eq_append_getElem hi, List.getD_eq_getElem?_getD, List.getElem?_eq_getElem hi]; rfl
theorem rs_take (s : Int → T) (t : List Nd) (i : Nat) (hi : i < t.length) : rs s (t.take (i + 1)) = rs s (t.take i) ++ rs1 s (t.getD i default) := by
  rw [take_one t i hi, rs_append]; simp [rs]
theorem Wq.one {L : List Nd} {i : Nat} {s : Int → T} {t : List Nd} (hi : i < t.length) (h : Wq i (rs s (t.take i)) L) (n : Nd) (hg : rs1 s (t.getD i default) = [n]) : Wq (i + 1) (rs s (t.take (i + 1))) (L ++ [n]) := by
  rw [rs_take s t i hi, hg]; exact h.app n
theorem NodesAt.keep {w w' : World} {v : Value} {t : List Nd} (h : NodesAt w v t) (hz : w.heap.size ≤ w'.heap.size) (hk : ∀ b o m c, v = .slice (some ⟨b, o, none⟩) m c → b < w.heap.size → w'.heap[b]? = w.heap[b]?) : NodesAt w' v t := by
  obtain ⟨g1, p, cap, e, g2, g3, g4⟩ := h
  refine ⟨g1, p, cap, e, g2, g3, fun h0 => ?_⟩
  obtain ⟨b', off', rfl, gb, gc⟩ := g4 h0
  exact ⟨b', off', rfl, Nat.lt_of_lt_of_le gb hz, gc.kept (hk b' off' _ cap e gb)⟩
end Go.Proofs.YtncifeeinogcnaaGreatDoor
/- The contract of Resolve. -/
set_option maxRecDepth 100000
namespace Go.Proofs.YtncifeeinogcnaaGreatDoor
open Go.RowKit Go.Lib Go.Maps Go.Proofs.TreeMath

theorem ST.frmD {B : Nat} {w w' : World} {S : SS} {tr : Nat → T} {es : List (T × T)} {sb mb n : Nat} {D : DM} {nx mrk : Int} (h : ST B w S tr es sb mb n D nx mrk) (f : Frm S.D B w w') (tw : TW B w' S) : ST B w' S tr es sb mb n D nx mrk := by
  have hs : sb ∉ S.dom := fun hd => by
    obtain ⟨_, cs, hc⟩ := h.tw.blk hd
    rw [h.sbk] at hc; simp at hc
  have hm : mb ∉ S.dom := fun hd => by
    obtain ⟨_, cs, hc⟩ := h.tw.blk hd
    exact map_ne h.map hc rfl
  refine ⟨h.core, tw, (f.block sb h.bnd.1 hs).trans h.sbk, ?_, h.bnd, h.key, h.only, h.mle, h.pos, h.rng⟩
  obtain ⟨es', cl, hb, r⟩ := h.map
  exact ⟨es', cl, (f.block mb h.bnd.2 hm).trans hb, r⟩
theorem right_num {n : Nd} (h : rightN n = true) : (0 ≤ n.num ∧ n.num ≤ 1048576) ∧ (n.kind = 31 → n = vN n.num) ∧ (n.kind ≠ 31 → n.kind = 32) := by
  unfold rightN at h
  split at h
  · rename_i e
    simp only [Bool.and_eq_true, decide_eq_true_eq, beq_iff_eq] at h
    obtain ⟨⟨⟨a, b⟩, c⟩, d⟩ := h
    refine ⟨⟨a, b⟩, fun _ => ?_, fun h => absurd e h⟩
    obtain ⟨kd, tx, nm, kc⟩ := n
    simp only at e c d
    rw [e, c, empty_text d]
    rfl
  · split at h
    · rename_i e1 e2
      simp only [Bool.and_eq_true, beq_iff_eq] at h
      exact ⟨by omega, fun e => absurd e e1, fun _ => e2⟩
    · exact absurd h (by decide)
end Go.Proofs.YtncifeeinogcnaaGreatDoor
/- A new store; a fresh variable. -/
set_option maxRecDepth 100000
namespace Go.Proofs.YtncifeeinogcnaaGreatDoor
open Go.RowKit Go.Lib Go.Maps Go.Proofs.TreeMath

def S0 : SS := ⟨[], fun _ => ⟨31, ⟨#[]⟩, 0, 0⟩, fun _ => [], id, fun _ => false, fun _ => 0, fun _ => none⟩
theorem n0 {tr : Nat → T} {x : Nat} (h : (S0.gr tr).ids x) : False := by cases h
theorem n1 {x : Nat} (h : x ∈ S0.dom) : False := by cases h
end Go.Proofs.YtncifeeinogcnaaGreatDoor
/- A fresh variable. -/
set_option maxRecDepth 100000
namespace Go.Proofs.YtncifeeinogcnaaGreatDoor
open Go.RowKit Go.Lib Go.Maps Go.Proofs.TreeMath

theorem ST.next {B : Nat} {w : World} {S : SS} {tr : Nat → T} {es : List (T × T)} {sb mb n : Nat} {D : DM} {nx mrk : Int} (h : ST B w S tr es sb mb n D nx mrk) (ny : Int) : ST B (w.setCell ⟨sb, 0, none⟩ (.int .i64 ny)) S tr es sb mb n D ny mrk := by
  have hs : sb ∉ S.dom := fun hd => by
    obtain ⟨_, cs, hc⟩ := h.tw.blk hd
    rw [h.sbk] at hc; simp at hc
  have hm : mb ≠ sb := fun e => map_ne h.map h.sbk e.symm
  have oth : ∀ k, k ≠ sb → (w.setCell ⟨sb, 0, none⟩ (.int .i64 ny)).heap[k]? = w.heap[k]? := fun k hk => Below.heap_setCell _ _ _ _ hk
  refine ⟨h.core, ?_, ?_, ?_, h.bnd, h.key, h.only, h.mle, h.pos, h.rng⟩
  · obtain ⟨y, k⟩ := h.tw
    refine ⟨y, k.lead, k.bin, fun x hx => ?_, k.kin, by have := k.fit; simpa [World.setCell] using this⟩
    obtain ⟨h1, kv, h2, h3⟩ := k.blk x hx
    refine ⟨h1, kv, (oth x (by rintro rfl; exact hs hx)).trans h2, fun e => (h3 e).of_block fun g hg => oth g ?_⟩
    rintro rfl
    obtain ⟨cur, hc⟩ := (h3 e).ty hg
    rw [h.sbk] at hc; simp at hc
  · rw [set_blk h.sbk]; rfl
  · obtain ⟨es', cl, hb, r⟩ := h.map
    exact ⟨es', cl, (oth mb hm).trans hb, r⟩
end Go.Proofs.YtncifeeinogcnaaGreatDoor
/- Unify: what its bindings are. -/
set_option maxRecDepth 100000
namespace Go.Proofs.YtncifeeinogcnaaGreatDoor
open Go.RowKit Go.Lib Go.Maps Go.Proofs.TreeMath

abbrev BT := Int × List Nd × Value
def btCells (bs : List BT) : List Value := bs.flatMap fun b => [.int .i64 b.1, b.2.2]
theorem btCells_append (a b : List BT) : btCells (a ++ b) = btCells a ++ btCells b := by simp [btCells]
/-- Bindings of one's own. -/
def BG (B : Nat) (bs : List BT) (lv : Value) (w : World) : Prop := w.ownsRow B 40 2 lv bs.length (btCells bs) ∧ ∀ b ∈ bs, w.ownsRow B 58 4 b.2.2 b.2.1.length (nodeCells b.2.1)
theorem BG.nil (B : Nat) (w : World) : BG B [] (.slice none 0 0) w := ⟨World.ownsRow_nil _ _ _ _, fun _ h => absurd h (by simp)⟩
theorem BG.keep {B : Nat} {bs : List BT} {lv : Value} {w w' : World} (h : BG B bs lv w) (k : ∀ g cur T, B ≤ g → w.heap[g]? = some (.cells cur T (0, 0)) → T = 40 ∨ T = 58 → w'.heap[g]? = w.heap[g]?) : BG B bs lv w' := by
  refine ⟨World.ownsRow.keep h.1 fun g hg => ?_, fun b hb => World.ownsRow.keep (h.2 b hb) fun g hg => ?_⟩
  · obtain ⟨cur, hc⟩ := row_ty h.1 hg
    exact k g cur 40 (World.ownsRow.there h.1 hg).1 hc (.inl rfl)
  · obtain ⟨cur, hc⟩ := row_ty (h.2 b hb) hg
    exact k g cur 58 (World.ownsRow.there (h.2 b hb) hg).1 hc (.inr rfl)
/-- One binding is appended. -/
theorem BG.more {B : Nat} {bs : List BT} {lv nv : Value} {w w1 w2 : World} (h : BG B bs lv w) (b1 : Below w.heap.size w w1) (g : w1.grownBy w2 lv.ownBlock) (b : BT) (ho : w.ownsRow B 58 4 b.2.2 b.2.1.length (nodeCells b.2.1))
    (hn : w2.ownsRow B 40 2 nv (bs.length + 1) (btCells bs ++ [.int .i64 b.1, b.2.2])) : BG B (bs ++ [b]) nv w2 := by
  have kp : ∀ {v : Value} {n : Nat} {xs : List Value}, w.ownsRow B 58 4 v n xs → w2.ownsRow B 58 4 v n xs := fun {v n xs} hr => by
    refine World.ownsRow.keep hr fun k hk => ?_
    have hlt := (World.ownsRow.there hr hk).2
    refine (g.block k (Nat.lt_of_lt_of_le hlt b1.size) fun e => ?_).trans (b1.block k hlt)
    obtain ⟨cur, hc⟩ := row_ty hr hk
    obtain ⟨cur2, hc2⟩ := row_ty h.1 e.symm
    rw [hc] at hc2
    simp at hc2
  refine ⟨?_, fun c hc => ?_⟩
  · rw [List.length_append, btCells_append]
    exact hn
  · rcases List.mem_append.1 hc with hc | hc
    · exact kp (h.2 c hc)
    · rw [List.mem_singleton] at hc; subst hc; exact kp ho
noncomputable def bind1 (s : Int → T) (k : Int) : List (Int × List Nd) := by classical exact if s k = vT k then [] else [(k, flatT (s k))]
noncomputable def bindsOf (s : Int → T) (ks : List Int) : List (Int × List Nd) := ks.flatMap (bind1 s)
theorem bind1_self {s : Int → T} {k : Int} (h : s k = vT k) : bind1 s k = [] := by unfold bind1; rw [if_pos h]
theorem bind1_more {s : Int → T} {k : Int} (h : s k ≠ vT k) : bind1 s k = [(k, flatT (s k))] := by unfold bind1; rw [if_neg h]
theorem bindsOf_take (s : Int → T) (ks : List Int) (i : Nat) (hi : i < ks.length) : bindsOf s (ks.take (i + 1)) = bindsOf s (ks.take i) ++ bind1 s (ks.getD i 0) := by
  unfold bindsOf
  rw [List.take_succ_eq_append_getElem hi, List.getD_eq_getElem?_getD, List.getElem?_eq_getElem hi, List.flatMap_append, List.flatMap_cons, List.flatMap_nil, List.append_nil]
  rfl
def prs (bs : List BT) : List (Int × List Nd) := bs.map fun b => (b.1, b.2.1)
end Go.Proofs.YtncifeeinogcnaaGreatDoor
/- Unify: what its loop keeps. -/
set_option maxRecDepth 100000
namespace Go.Proofs.YtncifeeinogcnaaGreatDoor
open Go.RowKit Go.Lib Go.Maps Go.Proofs.TreeMath

structure UI (B : Nat) (w : World) (S : SS) (tr : Nat → T) (es : List (T × T)) (sb mb m : Nat) (D : DM) (nx mrk : Int) (s : Int → T) (ks : List Int) (kv : Value) (i : Nat) (bs : List BT) (lv : Value) (wr : World) : Prop where
  st : ST wr.heap.size wr S tr es sb mb m D nx mrk
  row : wr.ownsRow B 2 1 kv ks.length (ks.map encZ)
  bg : BG B bs lv wr
  eq : prs bs = bindsOf s (ks.take i)
  len : bs.length ≤ i
  sm : ∀ j, j < i → szT (s (ks.getD j 0)) ≤ 4000
  be : Below B w wr
  new : ∀ x ∈ S.dom, B ≤ x
  bw : B ≤ wr.heap.size
section
variable {B : Nat} {w : World} {S : SS} {tr : Nat → T} {es : List (T × T)} {sb mb m : Nat} {D : DM} {nx mrk : Int} {s : Int → T} {ks : List Int} {kv : Value} {i : Nat} {bs : List BT} {lv : Value} {wr : World}
theorem UI.frm (h : UI B w S tr es sb mb m D nx mrk s ks kv i bs lv wr) {w2 : World} (f : Frm S.D wr.heap.size wr w2) (tw : TW wr.heap.size w2 S) : UI B w S tr es sb mb m D nx mrk s ks kv i bs lv w2 := by
  have oth : ∀ (g : Nat) (cur : Array Value) (T0 : TypeId), wr.heap[g]? = some (.cells cur T0 (0, 0)) → T0 ≠ 136 → w2.heap[g]? = wr.heap[g]? := fun g cur T0 hg ht => by
    refine f.block g (Array.getElem?_eq_some_iff.1 hg).1 fun hd => ?_
    obtain ⟨_, cs, hc⟩ := h.st.tw.blk hd
    rw [hg] at hc
    simp only [Option.some.injEq, Obj.cells.injEq] at hc
    exact ht hc.2.1
  refine ⟨(h.st.frmD f tw).raise f.size (Nat.le_refl _), World.ownsRow.keep h.row fun g hg => ?_, h.bg.keep fun g cur T0 _ hg ht => oth g cur T0 hg (by rcases ht with rfl | rfl <;> decide), h.eq, h.len, h.sm, h.be.trans (f.below h.bw fun k hk hd => by have := h.new k hd; omega), h.new, Nat.le_trans h.bw f.size⟩
  obtain ⟨cur, hc⟩ := row_ty h.row hg
  exact oth g cur 2 hc (by decide)
theorem UI.below (h : UI B w S tr es sb mb m D nx mrk s ks kv i bs lv wr) {w2 : World} (b : Below wr.heap.size wr w2) : UI B w S tr es sb mb m D nx mrk s ks kv i bs lv w2 := h.frm (Frm.of_below b) (h.st.tw.below b)
/-- A variable that stands for itself. -/
theorem UI.skip (h : UI B w S tr es sb mb m D nx mrk s ks kv i bs lv wr) (hi : i < ks.length) (he : s (ks.getD i 0) = vT (ks.getD i 0)) : UI B w S tr es sb mb m D nx mrk s ks kv (i + 1) bs lv wr := by
  refine ⟨h.st, h.row, h.bg, by rw [bindsOf_take s ks i hi, bind1_self he, List.append_nil]; exact h.eq, by have := h.len; omega, fun j hj => ?_, h.be, h.new, h.bw⟩
  by_cases e : j = i
  · subst e; rw [he]; simp [szT, vT, F.sz]
  · exact h.sm j (by omega)
/-- One more binding. -/
theorem UI.more (h : UI B w S tr es sb mb m D nx mrk s ks kv i bs lv wr) (hi : i < ks.length) (he : s (ks.getD i 0) ≠ vT (ks.getD i 0)) (hs : szT (s (ks.getD i 0)) ≤ 4000) {w1 w2 : World} (b1 : Below wr.heap.size wr w1) (g : w1.grownBy w2 lv.ownBlock) {nv tv : Value}
    (ho : wr.ownsRow B 58 4 tv (flatT (s (ks.getD i 0))).length (nodeCells (flatT (s (ks.getD i 0))))) (hn : w2.ownsRow B 40 2 nv (bs.length + 1) (btCells bs ++ [.int .i64 (ks.getD i 0), tv])) :
    UI B w S tr es sb mb m D nx mrk s ks kv (i + 1) (bs ++ [(ks.getD i 0, flatT (s (ks.getD i 0)), tv)]) nv w2 := by
  have hz : wr.heap.size ≤ w2.heap.size := Nat.le_trans b1.size g.size
  have kp : ∀ (k : Nat) (cur : Array Value) (T0 : TypeId), wr.heap[k]? = some (.cells cur T0 (0, 0)) → T0 ≠ 40 → w2.heap[k]? = wr.heap[k]? := fun k cur T0 hk ht => by
    have hlt := (Array.getElem?_eq_some_iff.1 hk).1
    refine (g.block k (Nat.lt_of_lt_of_le hlt b1.size) fun e => ?_).trans (b1.block k hlt)
    obtain ⟨cur2, hc2⟩ := row_ty h.bg.1 e.symm
    rw [hk] at hc2
    simp only [Option.some.injEq, Obj.cells.injEq] at hc2
    exact ht hc2.2.1
  have stw : ST wr.heap.size w2 S tr es sb mb m D nx mrk := by
    refine h.st.other hz fun k hk hc => ?_
    rcases hc with hd | rfl | rfl | ⟨x, hx, hr, hg2⟩
    · obtain ⟨_, cs, hc⟩ := h.st.tw.blk hd
      exact kp k cs 136 hc (by decide)
    · exact kp k _ 95 h.st.sbk (by decide)
    · refine (g.block k (Nat.lt_of_lt_of_le h.st.map.lt b1.size) fun e => ?_).trans (b1.block k h.st.map.lt)
      obtain ⟨cur2, hc2⟩ := row_ty h.bg.1 e.symm
      exact map_ne h.st.map hc2 rfl
    · obtain ⟨_, cur, hc⟩ := row_lt h.st hx hr hg2
      exact kp k cur 93 hc (by decide)
  refine ⟨stw.raise hz (Nat.le_refl _), World.ownsRow.keep h.row fun k hk => ?_, h.bg.more b1 g (ks.getD i 0, flatT (s (ks.getD i 0)), tv) ho hn, ?_, by rw [List.length_append, List.length_singleton]; have := h.len; omega, fun j hj => ?_, ?_, h.new, Nat.le_trans h.bw hz⟩
  · obtain ⟨cur, hc⟩ := row_ty h.row hk
    exact kp k cur 2 hc (by decide)
  · rw [bindsOf_take s ks i hi, bind1_more he, ← h.eq]
    simp [prs]
  · by_cases e : j = i
    · subst e; exact hs
    · exact h.sm j (by omega)
  · exact (h.be.trans (b1.mono h.bw)).grown g (Nat.le_trans h.bw b1.size) fun k e => (World.ownsRow.there h.bg.1 e).1
end
end Go.Proofs.YtncifeeinogcnaaGreatDoor
/- The contract of Vars. -/
set_option maxRecDepth 100000
namespace Go.Proofs.YtncifeeinogcnaaGreatDoor
open Go.RowKit Go.Lib Go.Maps Go.Proofs.TreeMath

def vstep (acc : List Int) (n : Nd) : List Int := if n.kind = 31 ∧ n.num ∉ acc then acc ++ [n.num] else acc
/-- The variables of nodes, each once. -/
def varsN (t : List Nd) : List Int := t.foldl vstep []
theorem varsN_take (t : List Nd) (i : Nat) (hi : i < t.length) : varsN (t.take (i + 1)) = vstep (varsN (t.take i)) (t.getD i default) := by
  unfold varsN
  rw [take_one t i hi, List.foldl_append]
  rfl
theorem info3 : ∃ i, Tryz.prog.info? 3 = some i ∧ i.zero = some (.int .i64 0) ∧ i.size = 1 ∧ i.bytes = 8 := info_of' (by kernel_rfl)
structure VI (w : World) (mb : Nat) (D : DM) (acc : List Int) (lv : Value) (i : Nat) (wr : World) : Prop where
  map : wr.ownsMap Tryz.prog 2 unitElem mb i D
  has : ∀ v, has D (kI v) = true ↔ v ∈ acc
  row : wr.ownsRow w.heap.size 3 1 lv acc.length (intCells acc)
  len : acc.length ≤ i
  be : Below w.heap.size w wr
  mb : w.heap.size ≤ mb
theorem VI.below {w : World} {mb : Nat} {D : DM} {acc : List Int} {lv : Value} {i : Nat} {wr w2 : World} (h : VI w mb D acc lv i wr) (b : Below wr.heap.size wr w2) : VI w mb D acc lv i w2 := by
  refine ⟨?_, h.has, World.ownsRow.keep h.row fun g hg => b.block g (World.ownsRow.there h.row hg).2, h.len, h.be.trans (b.mono h.be.size), h.mb⟩
  obtain ⟨es', cl, hb, r⟩ := h.map
  exact ⟨es', cl, (b.block mb (Array.getElem?_eq_some_iff.1 hb).1).trans hb, r⟩
theorem VI.skip {w : World} {mb : Nat} {D : DM} {acc : List Int} {lv : Value} {i : Nat} {wr : World} (h : VI w mb D acc lv i wr) : VI w mb D acc lv (i + 1) wr := ⟨h.map.mono (by omega), h.has, h.row, by have := h.len; omega, h.be, h.mb⟩
theorem VI.more {w : World} {mb : Nat} {D : DM} {acc : List Int} {lv nv : Value} {i : Nat} {wr w1 w3 w4 w5 : World} {v : Int} (h : VI w mb D acc lv i wr) (b1 : Below wr.heap.size wr w1) (g3 : w1.grownBy w3 (some mb)) (m3 : w3.ownsMap Tryz.prog 2 unitElem mb (i + 1) (D.put (kI v) (.agg []))) (b4 : Below w3.heap.size w3 w4) (g5 : w4.grownBy w5 lv.ownBlock)
    (hn : w5.ownsRow w.heap.size 3 1 nv (acc.length + 1) (intCells acc ++ [.int .i64 v])) : VI w mb (D.put (kI v) (.agg [])) (acc ++ [v]) nv (i + 1) w5 := by
  have isM : IsMap D := h.map.isMap
  refine ⟨?_, fun u => ?_, ?_, by rw [List.length_append, List.length_singleton]; have := h.len; omega, ?_, h.mb⟩
  · obtain ⟨es', cl, hb, r⟩ := m3
    have hlt := (Array.getElem?_eq_some_iff.1 hb).1
    refine ⟨es', cl, ((g5.block mb (Nat.lt_of_lt_of_le hlt b4.size) fun e => ?_).trans (b4.block mb hlt)).trans hb, r⟩
    obtain ⟨cur, hc⟩ := row_ty h.row e.symm
    obtain ⟨es0, cl0, hb0, _⟩ := h.map
    rw [hc] at hb0; simp at hb0
  · by_cases e : u = v
    · subst e
      exact ⟨fun _ => by simp, fun _ => has_put_same isM (kI_key _) _⟩
    · rw [has_put_other (fun e2 => e (kI_inj e2)), h.has u]
      simp [e]
  · rw [List.length_append, List.length_singleton, show intCells (acc ++ [v]) = intCells acc ++ [.int .i64 v] by simp [intCells]]
    exact hn
  · have hz := h.be.size
    exact ((((h.be.trans (b1.mono hz)).grown g3 (Nat.le_trans hz b1.size) fun k e => by simp at e; subst e; exact h.mb).trans (b4.mono (Nat.le_trans (Nat.le_trans hz b1.size) g3.size))).grown g5 (Nat.le_trans (Nat.le_trans (Nat.le_trans hz b1.size) g3.size) b4.size) fun k e => (World.ownsRow.there h.row e).1)
end Go.Proofs.YtncifeeinogcnaaGreatDoor
