/- Texts of this seat, one behind the other: TyRow, Vx, VaA. -/
import Derived.WalkKit
import Derived.ProofKit
import Derived.Below
import Derived.Deep.OwnRows
import Derived.Maps.AppendAt
import Derived.Deep.AppendSrc
import Derived.Deep.RegionLaw
import Derived.Test.YtncifeeinogcnaaDoorKn04
import Derived.Test.YtncifeeinogcnaaDoorKn15
import Derived.Test.YtncifeeinogcnaaDoorKn03
import Derived.Test.YtncifeeinogcnaaDoorKn09
import Derived.BigQuiet
import Derived.BigRegion
import Derived.Carry
import Derived.Deep.DeepCutAuto
import Derived.Deep.LoopGhost
import Derived.Deep.QuietTactic
import Derived.Deep.RegionHeld3
import Derived.Deep.RegionWith
import Derived.Lib.Hide
import Derived.LoopTactic
import Derived.Maps.Ext
import Derived.Maps.OwnSet
import Derived.Maps.Views
import Derived.Outline
import Derived.WalkArith
import Derived.Shelf.SlIterI.Nil
import Derived.Shelf.SortM.Plain
import Derived.Shelf.SortM.SortNone
import Derived.Laws.EntriesVeiled
import Derived.RegionTactic
import Derived.LaidEqlPtr
import Derived.Deep.CutBlock
import Derived.WalkSmall
import Derived.Lib.QuietBelow
import Derived.StillTailTactics
/- Append onto a row of the call's own, whatever the source. -/
namespace Go
theorem run_append_any {P : Program} (w : World) (base : Nat) (t ty e : TypeId) (i : TypeInfo) (z : Value) (size bytes : Nat) (ht : P.underlying t = some (.slice e)) (hi : P.info? e = some i) (hz : i.zero = some z)
    (hsize : i.size = size) (hby : i.bytes = bytes) (hzs : z.cells.size = size) (hsz : 0 < size)
    (v : Value) (n : Nat) (xs : List Value) (hown : w.ownsRow base e size v n xs)
    (q : Option Addr) (m c : Nat) (news : List Value) (hl : news.length = m * size) (hq : m ≠ 0 → ∃ ad, q = some ad ∧ ∀ j u, news[j]? = some u → w.cell? (ad.add j) = some u) (h1 : ∀ u ∈ news, u.oneCell' = true)
    (h63 : n + m ≤ maxLen) (hbytes : (n + m) * bytes ≤ 140737488355328) (hbase : base ≤ w.heap.size) :
    ∃ v' w', (Builtin.append_ #[t, t] ty #[v, .slice q m c]).run P w = .ok v' w' ∧ w'.ownsRow base e size v' (n + m) (xs ++ news) ∧ w.grownBy w' v.ownBlock ∧
      (v' = .slice none 0 0 ↔ v = .slice none 0 0 ∧ m = 0) ∧ (v'.ownBlock = v.ownBlock ∨ v'.ownBlock = some w.heap.size) := by
  by_cases h0 : m = 0
  · subst h0
    obtain rfl : news = [] := List.eq_nil_of_length_eq_zero (by rw [hl]; simp)
    cases q with
    | some ad => exact run_append_own_at w base t ty e i z size bytes ht hi hz hsize hby hzs hsz v n xs hown ad 0 c [] hl (by simp) h1 h63 hbytes hbase
    | none =>
      subst hsize
      have hsrc : Src P i.size t (.slice none 0 c) 0 [] w := Src.ofNil w ht c
      rcases hown.2 with ⟨rfl, rfl⟩ | ⟨g, cap, cur, rfl, hbg, hg, hnc, hcm, hcs, htake⟩
      · have hx : xs = [] := List.eq_nil_of_length_eq_zero (by simpa using hown.1)
        subst hx
        refine ⟨.slice none 0 0, w, ?_, World.ownsRow_nil w base e i.size, ⟨rfl, rfl, rfl, Nat.le_refl _, fun _ _ _ => rfl⟩, by simp, Or.inl rfl⟩
        simp [Builtin.append_, run_underlying ht, sizeOf, typeInfo, hi, Builtin.lenOf, Builtin.firstCells]
      · have hr := run_append_room_src (P := P) w t t ty e i ht hi g 0 n cap (.slice none 0 c) 0 [] hsrc (by omega) (by simp) (by simp)
        exact ⟨_, w, hr, by simpa using hown, ⟨rfl, rfl, rfl, Nat.le_refl _, fun _ _ _ => rfl⟩, by simp, Or.inl rfl⟩
  · obtain ⟨ad, rfl, hnews⟩ := hq h0
    exact run_append_own_at w base t ty e i z size bytes ht hi hz hsize hby hzs hsz v n xs hown ad m c news hl hnews h1 h63 hbytes hbase
theorem wpList_append_any {P : Program} (w : World) {ops : Array Oper} {rest : List Oper} {o : Oper} {a : Act} {Q : Exit → Act → World → Prop} (hgd : o.guard = none) (s x : Operand) (t : TypeId)
    (ho : o.op = .call { callee := .builtin .append, args := #[s, x], argTypes := #[t, t] })
    (base : Nat) (e : TypeId) (i : TypeInfo) (z : Value) (size bytes : Nat) (ht : P.underlying t = some (.slice e)) (hi : P.info? e = some i) (hz : i.zero = some z)
    (hsize : i.size = size) (hby : i.bytes = bytes) (hzs : z.cells.size = size) (hsz : 0 < size)
    (v : Value) (n : Nat) (xs : List Value) (hs : a.eval s = v) (hown : w.ownsRow base e size v n xs)
    (q : Option Addr) (m c : Nat) (news : List Value) (hx : a.eval x = .slice q m c) (hl : news.length = m * size) (hq : m ≠ 0 → ∃ ad, q = some ad ∧ ∀ j u, news[j]? = some u → w.cell? (ad.add j) = some u) (h1 : ∀ u ∈ news, u.oneCell' = true)
    (h63 : n + m ≤ maxLen) (hbytes : (n + m) * bytes ≤ 140737488355328) (hbase : base ≤ w.heap.size)
    (h : ∀ p' cap' w', w'.ownsRow base e size (.slice p' (n + m) cap') (n + m) (xs ++ news) → w.grownBy w' v.ownBlock → ((Value.slice p' (n + m) cap').ownBlock = v.ownBlock ∨ (Value.slice p' (n + m) cap').ownBlock = some w.heap.size) → wpList P ops Q rest (a.put o.dst (.slice p' (n + m) cap')) w') : wpList P ops Q (o :: rest) a w := by
  obtain ⟨v', w', hr, h2, h3, h4, h5⟩ := run_append_any (P := P) w base t o.type e i z size bytes ht hi hz hsize hby hzs hsz v n xs hown q m c news hl hq h1 h63 hbytes hbase
  obtain ⟨p', cap', rfl⟩ : ∃ p' cap', v' = .slice p' (n + m) cap' := by
    rcases h2.2 with ⟨rfl, e⟩ | ⟨g, cap, cur, rfl, _⟩
    · exact ⟨none, 0, by rw [e]⟩
    · exact ⟨_, _, rfl⟩
  refine wpList_plain hgd fun K hK => ?_
  unfold Oper.wp execOp
  simp only [ho, resolve, invoke, builtin, Sem.run_bind, Sem.run_pure, Result.andThen_ok, List.map_toArray, List.map_cons, List.map_nil, hs, hx, hr]
  exact hK _ _ (h p' cap' w' h2 h3 h5)
/-- A row that lies behind a base lies behind an elder one. -/
theorem World.ownsRow.base {w : World} {b b' : Nat} {e : TypeId} {size n : Nat} {v : Value} {xs : List Value} (h : w.ownsRow b e size v n xs) (hb : b' ≤ b) : w.ownsRow b' e size v n xs := by
  refine ⟨h.1, ?_⟩
  rcases h.2 with h | ⟨g, cap, cur, hv, hg, rest⟩
  · exact .inl h
  · exact .inr ⟨g, cap, cur, hv, by omega, rest⟩
/-- It stays while its block does. -/
theorem World.ownsRow.keep {w w' : World} {base : Nat} {e : TypeId} {size n : Nat} {v : Value} {xs : List Value} (h : w.ownsRow base e size v n xs) (k : ∀ g, v.ownBlock = some g → w'.heap[g]? = w.heap[g]?) : w'.ownsRow base e size v n xs := by
  refine ⟨h.1, ?_⟩
  rcases h.2 with h | ⟨g, cap, cur, rfl, hb, hg, rest⟩
  · exact .inl h
  · exact .inr ⟨g, cap, cur, rfl, hb, (k g rfl).trans hg, rest⟩
/-- Its block is one that is there. -/
theorem World.ownsRow.there {w : World} {base : Nat} {e : TypeId} {size n : Nat} {v : Value} {xs : List Value} (h : w.ownsRow base e size v n xs) {g : Nat} (hg : v.ownBlock = some g) : base ≤ g ∧ g < w.heap.size := by
  rcases h.2 with ⟨rfl, _⟩ | ⟨g', cap, cur, rfl, hb, hg', _⟩
  · cases hg
  · simp [Value.ownBlock] at hg
    subst hg
    exact ⟨hb, (Array.getElem?_eq_some_iff.1 hg').1⟩
theorem step_append_any {P : Program} {ops : Array Oper} {o : Oper} {a : Act} {w : World} {K : Act → World → Prop} {Q : Exit → Act → World → Prop} {E : Prop} (hgd : o.guard = none) (s x : Operand) (t : TypeId)
    (ho : o.op = .call { callee := .builtin .append, args := #[s, x], argTypes := #[t, t] })
    (base : Nat) (e : TypeId) (i : TypeInfo) (z : Value) (size bytes : Nat) (ht : P.underlying t = some (.slice e)) (hi : P.info? e = some i) (hz : i.zero = some z)
    (hsize : i.size = size) (hby : i.bytes = bytes) (hzs : z.cells.size = size) (hsz : 0 < size)
    (v : Value) (n : Nat) (xs : List Value) (hs : a.eval s = v) (hown : w.ownsRow base e size v n xs)
    (q : Option Addr) (m c : Nat) (news : List Value) (hx : a.eval x = .slice q m c) (hl : news.length = m * size) (hq : m ≠ 0 → ∃ ad, q = some ad ∧ ∀ j u, news[j]? = some u → w.cell? (ad.add j) = some u) (h1 : ∀ u ∈ news, u.oneCell' = true)
    (h63 : n + m ≤ maxLen) (hbytes : (n + m) * bytes ≤ 140737488355328) (hbase : base ≤ w.heap.size)
    (h : ∀ p' cap' w', w'.ownsRow base e size (.slice p' (n + m) cap') (n + m) (xs ++ news) → w.grownBy w' v.ownBlock → ((Value.slice p' (n + m) cap').ownBlock = v.ownBlock ∨ (Value.slice p' (n + m) cap').ownBlock = some w.heap.size) → K (a.put o.dst (.slice p' (n + m) cap')) w') :
    if Region.wanted o (yielded ops a.tmps) = true then Oper.wp P o a w K Q else E := by
  have hw : Region.wanted o (yielded ops a.tmps) = true := by simp [Region.wanted, hgd]
  rw [if_pos hw]
  obtain ⟨v', w', hr, h2, h3, h4, h5⟩ := run_append_any (P := P) w base t o.type e i z size bytes ht hi hz hsize hby hzs hsz v n xs hown q m c news hl hq h1 h63 hbytes hbase
  obtain ⟨p', cap', rfl⟩ : ∃ p' cap', v' = .slice p' (n + m) cap' := by
    rcases h2.2 with ⟨rfl, e⟩ | ⟨g, cap, cur, rfl, _⟩
    · exact ⟨none, 0, by rw [e]⟩
    · exact ⟨_, _, rfl⟩
  unfold Oper.wp execOp
  simp only [ho, resolve, invoke, builtin, Sem.run_bind, Sem.run_pure, Result.andThen_ok, List.map_toArray, List.map_cons, List.map_nil, hs, hx, hr]
  exact h p' cap' w' h2 h3 h5
end Go
/- What the contracts of Vars want. -/
set_option maxRecDepth 100000
namespace Go.Proofs.YtncifeeinogcnaaDoor
open Go.RowKit Go.Lib Go.Maps Go.Proofs.TreeMath

-- TyD
theorem cell_of_heap {w : World} {b : Nat} {cells : Array Value} {t : TypeId} {fz : Nat × Nat} (h : w.heap[b]? = some (.cells cells t fz)) (k : Nat) : w.cell? ⟨b, k, none⟩ = cells[k]? := by simp [World.cell?, h]
-- TyG
theorem row_form {w : World} {B : Nat} {e : TypeId} {size n : Nat} {v : Value} {xs : List Value} (h : w.ownsRow B e size v n xs) : ∃ q c, v = .slice q n c := by
  rcases h.2 with ⟨rfl, e⟩ | ⟨g, cap, cur, rfl, _⟩
  · exact ⟨none, 0, by rw [e]⟩
  · exact ⟨_, _, rfl⟩
-- TyG
theorem row_ty {w : World} {B : Nat} {e : TypeId} {size n : Nat} {v : Value} {xs : List Value} (h : w.ownsRow B e size v n xs) {g : Nat} (hg : v.ownBlock = some g) : ∃ cur, w.heap[g]? = some (.cells cur e (0, 0)) := by
  rcases h.2 with ⟨rfl, _⟩ | ⟨g', cap, cur, rfl, _, hg', _⟩
  · simp [Value.ownBlock] at hg
  · simp only [Value.ownBlock, Option.some.injEq] at hg
    subst hg
    exact ⟨cur, hg'⟩
-- TyH
theorem lit_cells (w : World) (cs : Array Value) (T : TypeId) : CellsIn (w.alloc (.cells cs T)) w.heap.size 0 cs.toList := fun j u hj => by
  have : (w.alloc (.cells cs T)).heap[w.heap.size]? = some (.cells cs T (0, 0)) := by show (w.heap.push _)[w.heap.size]? = _; simp
  rw [cell_of_heap this]
  simpa using hj
-- TyN
theorem alloc_top (w : World) (o : Obj) : (w.alloc o).heap[w.heap.size]? = some o := by show (w.heap.push o)[w.heap.size]? = _; simp
-- TyR
abbrev DM := DataW Unit
-- TyR
theorem law2 : Keyed Tryd.prog 2 := int_keyed Tryd.underlying2
-- TyR
def kI (v : Int) : Lit := .int .i64 v
-- TyR
theorem key2 (v : Int) (h0 : -9223372036854775808 ≤ v) (h1 : v ≤ 9223372036854775807) : keyOf Tryd.prog 2 (.int .i64 v) = some (kI v) := keyOf_int_mk Tryd.underlying2 (by simp [Lit.wf, IntKind.min, IntKind.max, IntKind.signed, IntKind.bits]; omega)
-- TyR
theorem kI_inj {a b : Int} (h : kI a = kI b) : a = b := by unfold kI at h; injection h
-- TyR
theorem kI_key (a : Int) : WideAt.IsKeyLit (kI a) := trivial
-- TyT
theorem slice_eq (b off n c k : Nat) (hk : k ≤ n) (hnc : n ≤ c) (W : World) :
    (Instr.sliceAt 36 (.slice (some ⟨b, off, none⟩) n c) (some (.int .i64 k)) none none).run Tryd.prog W = .ok (.slice (if c = k then some ⟨b, off, none⟩ else some ⟨b, off + k * 4, none⟩) (n - k) (c - k)) W := by
  have h0 : (0 : Int) ≤ k := by omega
  have h1 : (k : Int) ≤ n := by omega
  have h2 : k ≤ c := by omega
  by_cases hc : c = k
  · subst hc
    simp [go_sem, hk]
  · simp [go_sem, hk, hc]
-- TyT
/-- Types, as trees. -/
def okF : F → Prop
  | .nil => True
  | .cons n k r => ((n.kind = 31 ∧ n = vN n.num ∧ (0 ≤ n.num ∧ n.num ≤ 1048576) ∧ k = .nil) ∨ (n.kind = 32 ∧ n.kids = (k.cnt : Int))) ∧ okF k ∧ okF r
-- UnA
theorem empty_text {s : ByteArray} (h : s.data.toList.isEmpty = true) : s = ⟨#[]⟩ := by
  obtain ⟨⟨l⟩⟩ := s
  simp at h
  subst h
  rfl
-- ReC
theorem okF_wv (f : F) : okF f → wv f := by
  induction f with
  | nil => intro _; trivial
  | cons n k r hk hr =>
    rintro ⟨h1, h2, h3⟩
    refine ⟨fun e => ?_, hk h2, hr h3⟩
    rcases h1 with ⟨_, a, _, b⟩ | ⟨a, _⟩
    · exact ⟨a, b⟩
    · rw [a] at e; exact absurd e (by decide)
-- ReC
theorem take_one (t : List Nd) (i : Nat) (hi : i < t.length) : t.take (i + 1) = t.take i ++ [t.getD i default] := by
  rw [List.take_succ_eq_append_getElem hi, List.getD_eq_getElem?_getD, List.getElem?_eq_getElem hi]; rfl
-- ReD
theorem right_num {n : Nd} (h : rightN n = true) : (0 ≤ n.num ∧ n.num ≤ 1048576) ∧ (n.kind = 31 → n = vN n.num) ∧ (n.kind ≠ 31 → n.kind = 32) := by
  unfold rightN at h
  split at h
  · rename_i e
    simp only [Bool.and_eq_true, decide_eq_true_eq, beq_iff_eq] at h
    obtain ⟨⟨⟨a, b⟩, c⟩, d⟩ := h
    refine ⟨⟨a, b⟩, fun _ => ?_, fun h => absurd e h⟩
    obtain ⟨kd, tx, nm, kc⟩ := n
    simp only at e c d
    rw [e, c, empty_text d]
    rfl
  · split at h
    · rename_i e1 e2
      simp only [Bool.and_eq_true, beq_iff_eq] at h
      exact ⟨by omega, fun e => absurd e e1, fun _ => e2⟩
    · exact absurd h (by decide)
-- ReD
theorem below_two (w : World) (a b : Obj) : Below w.heap.size w ((w.alloc a).alloc b) := ((Below.refl _ w).alloc (Nat.le_refl _) a).alloc (by simp) b
-- UnD
theorem has_none (a : Lit) : has (.map [] : DM) a = false := rfl
-- RfC
theorem all_take (p : Nd → Bool) (t : List Nd) (j : Nat) (hj : j < t.length) (h : (t.take j).all p = true) (hp : p (t.getD j default) = true) : (t.take (j + 1)).all p = true := by
  rw [take_one t j hj, List.all_append, h, List.all_cons, List.all_nil, hp]; rfl
end Go.Proofs.YtncifeeinogcnaaDoor
/- The contract of Vars. -/
set_option maxRecDepth 100000
namespace Go.Proofs.YtncifeeinogcnaaDoor
open Go.RowKit Go.Lib Go.Maps Go.Proofs.TreeMath

def vstep (acc : List Int) (n : Nd) : List Int := if n.kind = 31 ∧ n.num ∉ acc then acc ++ [n.num] else acc
/-- The variables of nodes, each once. -/
def varsN (t : List Nd) : List Int := t.foldl vstep []
theorem varsN_take (t : List Nd) (i : Nat) (hi : i < t.length) : varsN (t.take (i + 1)) = vstep (varsN (t.take i)) (t.getD i default) := by
  unfold varsN
  rw [take_one t i hi, List.foldl_append]
  rfl
theorem info3 : ∃ i, Tryd.prog.info? 3 = some i ∧ i.zero = some (.int .i64 0) ∧ i.size = 1 ∧ i.bytes = 8 := info_of' (by kernel_rfl)
theorem zero66 (w : World) : (zeroValue 69).run Tryd.prog w = .ok (.agg #[]) w := by kernel_rfl
structure VI (w : World) (mb : Nat) (D : DM) (acc : List Int) (lv : Value) (i : Nat) (wr : World) : Prop where
  map : wr.ownsMap Tryd.prog 2 unitElem mb i D
  has : ∀ v, has D (kI v) = true ↔ v ∈ acc
  row : wr.ownsRow w.heap.size 3 1 lv acc.length (intCells acc)
  len : acc.length ≤ i
  be : Below w.heap.size w wr
  mb : w.heap.size ≤ mb
theorem VI.below {w : World} {mb : Nat} {D : DM} {acc : List Int} {lv : Value} {i : Nat} {wr w2 : World} (h : VI w mb D acc lv i wr) (b : Below wr.heap.size wr w2) : VI w mb D acc lv i w2 := by
  refine ⟨?_, h.has, World.ownsRow.keep h.row fun g hg => b.block g (World.ownsRow.there h.row hg).2, h.len, h.be.trans (b.mono h.be.size), h.mb⟩
  obtain ⟨es', cl, hb, r⟩ := h.map
  exact ⟨es', cl, (b.block mb (Array.getElem?_eq_some_iff.1 hb).1).trans hb, r⟩
theorem VI.skip {w : World} {mb : Nat} {D : DM} {acc : List Int} {lv : Value} {i : Nat} {wr : World} (h : VI w mb D acc lv i wr) : VI w mb D acc lv (i + 1) wr := ⟨h.map.mono (by omega), h.has, h.row, by have := h.len; omega, h.be, h.mb⟩
theorem VI.more {w : World} {mb : Nat} {D : DM} {acc : List Int} {lv nv : Value} {i : Nat} {wr w1 w3 w4 w5 : World} {v : Int} (h : VI w mb D acc lv i wr) (b1 : Below wr.heap.size wr w1) (g3 : w1.grownBy w3 (some mb)) (m3 : w3.ownsMap Tryd.prog 2 unitElem mb (i + 1) (D.put (kI v) (.agg []))) (b4 : Below w3.heap.size w3 w4) (g5 : w4.grownBy w5 lv.ownBlock)
    (hn : w5.ownsRow w.heap.size 3 1 nv (acc.length + 1) (intCells acc ++ [.int .i64 v])) : VI w mb (D.put (kI v) (.agg [])) (acc ++ [v]) nv (i + 1) w5 := by
  have isM : IsMap D := h.map.isMap
  refine ⟨?_, fun u => ?_, ?_, by rw [List.length_append, List.length_singleton]; have := h.len; omega, ?_, h.mb⟩
  · obtain ⟨es', cl, hb, r⟩ := m3
    have hlt := (Array.getElem?_eq_some_iff.1 hb).1
    refine ⟨es', cl, ((g5.block mb (Nat.lt_of_lt_of_le hlt b4.size) fun e => ?_).trans (b4.block mb hlt)).trans hb, r⟩
    obtain ⟨cur, hc⟩ := row_ty h.row e.symm
    obtain ⟨es0, cl0, hb0, _⟩ := h.map
    rw [hc] at hb0; simp at hb0
  · by_cases e : u = v
    · subst e
      exact ⟨fun _ => by simp, fun _ => has_put_same isM (kI_key _) _⟩
    · rw [has_put_other (fun e2 => e (kI_inj e2)), h.has u]
      simp [e]
  · rw [List.length_append, List.length_singleton, show intCells (acc ++ [v]) = intCells acc ++ [.int .i64 v] by simp [intCells]]
    exact hn
  · have hz := h.be.size
    exact ((((h.be.trans (b1.mono hz)).grown g3 (Nat.le_trans hz b1.size) fun k e => by simp at e; subst e; exact h.mb).trans (b4.mono (Nat.le_trans (Nat.le_trans hz b1.size) g3.size))).grown g5 (Nat.le_trans (Nat.le_trans (Nat.le_trans hz b1.size) g3.size) b4.size) fun k e => (World.ownsRow.there h.row e).1)
def VaP (t : List Nd) (w : World) (e : Ending) (w' : World) : Prop := ∃ lv, e = .returned lv ∧ w'.ownsRow w.heap.size 3 1 lv (if tyB t = true then varsN t else []).length (intCells (if tyB t = true then varsN t else [])) ∧ Below w.heap.size w w'
end Go.Proofs.YtncifeeinogcnaaDoor
