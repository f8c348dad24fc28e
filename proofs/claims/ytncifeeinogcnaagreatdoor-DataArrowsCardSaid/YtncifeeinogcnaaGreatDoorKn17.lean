/- Texts of this seat, one behind the other: TyR, TyT, TyV, TyW, TyO, UnA, UnC. -/
import Derived.Test.YtncifeeinogcnaaGreatDoorKn16
import Derived.Maps.OwnSet
import Derived.WalkArith
import Derived.Maps.Views
import Derived.Maps.Ext
import Derived.Test.YtncifeeinogcnaaGreatDoorKn03
import Derived.RegionTactic
import Derived.Test.YtncifeeinogcnaaGreatDoorKn08
import Derived.Laws.EntriesVeiled
/- A store in a world. -/
set_option maxRecDepth 100000
namespace Go.Proofs.YtncifeeinogcnaaGreatDoor
open Go.RowKit Go.Lib Go.Maps Go.Proofs.TreeMath

abbrev DM := DataW Unit
/-- How a term's address reads in a map. -/
def PE : Value → Option (DM × List MemPlace)
  | .pointer none => some (.nil, [])
  | .pointer (some a) => if a = ⟨a.block, 0, none⟩ then some (.lit (.int .i64 (a.block : Int)), []) else none
  | _ => none
theorem PE_inv {v : Value} {b : Nat} {ps : List MemPlace} (h : PE v = some (.lit (.int .i64 (b : Int)), ps)) : v = pv b := by
  cases v <;> simp [PE] at h
  rename_i a
  cases a with
  | none => simp at h
  | some a =>
    simp only [Option.ite_none_right_eq_some, Option.some.injEq, Prod.mk.injEq, DataW.lit.injEq, Lit.int.injEq, true_and] at h
    obtain ⟨h1, h2, _⟩ := h
    rw [h1]
    have : a.block = b := by omega
    rw [this]; rfl
theorem PE_nil {v : Value} {ps : List MemPlace} (h : PE v = some (.nil, ps)) : v = .pointer none := by
  cases v <;> simp [PE] at h
  rename_i a
  cases a with
  | none => rfl
  | some a => simp at h
theorem law2 : Keyed Tryz.prog 2 := int_keyed Tryz.underlying2
def kI (v : Int) : Lit := .int .i64 v
theorem key2 (v : Int) (h0 : -9223372036854775808 ≤ v) (h1 : v ≤ 9223372036854775807) : keyOf Tryz.prog 2 (.int .i64 v) = some (kI v) := keyOf_int_mk Tryz.underlying2 (by simp [Lit.wf, IntKind.min, IntKind.max, IntKind.signed, IntKind.bits]; omega)
theorem zero79 (w : World) : (zeroValue 93).run Tryz.prog w = .ok (.pointer none) w := by kernel_rfl
theorem kI_inj {a b : Int} (h : kI a = kI b) : a = b := by unfold kI at h; injection h
theorem kI_key (a : Int) : WideAt.IsKeyLit (kI a) := trivial
def wa (S : SS) : Nat := (S.dom.map fun x => 1 + (S.kids x).length).sum
structure ST (B : Nat) (w : World) (S : SS) (tr : Nat → T) (es : List (T × T)) (sb mb n : Nat) (D : DM) (nx mrk : Int) : Prop where
  core : Core S tr es
  tw : TW B w S
  sbk : w.heap[sb]? = some (.cells #[.int .i64 nx, .map (some mb), .int .i64 mrk] 95 (0, 0))
  map : w.ownsMap Tryz.prog 2 PE mb n D
  bnd : sb < B ∧ mb < B
  key : ∀ x ∈ S.dom, (S.node x).kind = 31 → has D (kI (S.node x).num) = true ∧ D.atKey (kI (S.node x).num) .nil = .lit (.int .i64 (x : Int))
  only : ∀ v, has D (kI v) = true → ∃ x ∈ S.dom, S.node x = vN v
  mle : ∀ x ∈ S.dom, S.mr x ≤ mrk
  pos : 0 ≤ mrk
  rng : ∀ x ∈ S.dom, (S.node x).kind = 31 → 0 ≤ (S.node x).num ∧ (S.node x).num ≤ 1048576
def DB (S : SS) (mb : Nat) (k : Nat) : Prop := k ∈ S.dom ∨ k = mb
structure Gro (w : World) (S : SS) (tr : Nat → T) (S' : SS) (tr' : Nat → T) : Prop where
  dom : ∀ x ∈ S.dom, x ∈ S'.dom
  new : ∀ x ∈ S'.dom, x ∈ S.dom ∨ w.heap.size ≤ x
  tr : ∀ x ∈ S.dom, tr' x = tr x
  node : ∀ x ∈ S.dom, S'.node x = S.node x
  rep : S'.rep = S.rep
  wi : ∀ x ∈ S.dom, S.wi x = true → S'.wi x = true
  row : ∀ x ∈ S'.dom, (x ∈ S.dom ∧ S'.row x = S.row x) ∨ ∀ g, S'.row x = some g → w.heap.size ≤ g
theorem Gro.refl (w : World) (S : SS) (tr : Nat → T) : Gro w S tr S tr := ⟨fun _ h => h, fun _ h => .inl h, fun _ _ => rfl, fun _ _ => rfl, rfl, fun _ _ h => h, fun _ h => .inl ⟨h, rfl⟩⟩
theorem Gro.trans {w w1 : World} {S S1 S2 : SS} {tr tr1 tr2 : Nat → T} (h : Gro w S tr S1 tr1) (k : Gro w1 S1 tr1 S2 tr2) (hw : w.heap.size ≤ w1.heap.size) : Gro w S tr S2 tr2 :=
  ⟨fun x hx => k.dom x (h.dom x hx), fun x hx => by
    rcases k.new x hx with e | e
    · exact h.new x e
    · exact .inr (by omega), fun x hx => (k.tr x (h.dom x hx)).trans (h.tr x hx), fun x hx => (k.node x (h.dom x hx)).trans (h.node x hx), k.rep.trans h.rep, fun x hx e => k.wi x (h.dom x hx) (h.wi x hx e), fun x hx => by
    rcases k.row x hx with ⟨e1, e2⟩ | e
    · rcases h.row x e1 with ⟨e3, e4⟩ | e5
      · exact .inl ⟨e3, e2.trans e4⟩
      · exact .inr fun g hg => e5 g (e2.symm.trans hg)
    · exact .inr fun g hg => by have := e g hg; omega⟩
/-- The rest stays. -/
theorem ST.frm {B : Nat} {w w' : World} {S : SS} {tr : Nat → T} {es : List (T × T)} {sb mb n : Nat} {D : DM} {nx mrk : Int} (h : ST B w S tr es sb mb n D nx mrk) (b : Below B w w') : ST B w' S tr es sb mb n D nx mrk := by
  refine ⟨h.core, h.tw.below b, (b.block sb h.bnd.1).trans h.sbk, ?_, h.bnd, h.key, h.only, h.mle, h.pos, h.rng⟩
  obtain ⟨es', cl, hb, r⟩ := h.map
  exact ⟨es', cl, (b.block mb h.bnd.2).trans hb, r⟩
theorem ST.raise {B C : Nat} {w : World} {S : SS} {tr : Nat → T} {es : List (T × T)} {sb mb n : Nat} {D : DM} {nx mrk : Int} (h : ST B w S tr es sb mb n D nx mrk) (hC : B ≤ C) (hw : C ≤ w.heap.size) : ST C w S tr es sb mb n D nx mrk :=
  ⟨h.core, h.tw.raise hC hw, h.sbk, h.map, ⟨by have := h.bnd; omega, by have := h.bnd; omega⟩, h.key, h.only, h.mle, h.pos, h.rng⟩
theorem map_ne {w : World} {mb n : Nat} {D : DM} (h : w.ownsMap Tryz.prog 2 PE mb n D) {k : Nat} {cs : Array Value} {T : TypeId} {fz : Nat × Nat} (hk : w.heap[k]? = some (.cells cs T fz)) : k ≠ mb := by
  rintro rfl
  obtain ⟨es, cl, hb, _⟩ := h
  rw [hk] at hb; simp at hb
/-- What is not a store's changes. -/
theorem ST.other {B : Nat} {w w' : World} {S : SS} {tr : Nat → T} {es : List (T × T)} {sb mb n : Nat} {D : DM} {nx mrk : Int} (h : ST B w S tr es sb mb n D nx mrk) (hB : B ≤ w'.heap.size)
    (hk : ∀ k, k < B → (k ∈ S.dom ∨ k = sb ∨ k = mb ∨ ∃ x ∈ S.dom, S.rep x = x ∧ S.row x = some k) → w'.heap[k]? = w.heap[k]?) : ST B w' S tr es sb mb n D nx mrk := by
  refine ⟨h.core, ?_, (hk sb h.bnd.1 (.inr (.inl rfl))).trans h.sbk, ?_, h.bnd, h.key, h.only, h.mle, h.pos, h.rng⟩
  · obtain ⟨y, k⟩ := h.tw
    refine ⟨y, k.lead, k.bin, fun x hx => ?_, k.kin, hB⟩
    obtain ⟨h1, kv, h2, h3⟩ := k.blk x hx
    exact ⟨h1, kv, (hk x h1 (.inl hx)).trans h2, fun e => (h3 e).of_block fun g hg => hk g ((h3 e).k.2 g hg) (.inr (.inr (.inr ⟨x, hx, (k.none_iff x).1 e, by rw [← (h3 e).r]; exact hg⟩)))⟩
  · obtain ⟨es', cl, hb, r⟩ := h.map
    exact ⟨es', cl, (hk mb h.bnd.2 (.inr (.inr (.inl rfl)))).trans hb, r⟩
/-- What a look-up in a store's map gives. -/
theorem ST.look {B : Nat} {w : World} {S : SS} {tr : Nat → T} {es : List (T × T)} {sb mb n : Nat} {D : DM} {nx mrk : Int} (h : ST B w S tr es sb mb n D nx mrk) (v : Int) (h0 : -9223372036854775808 ≤ v) (h1 : v ≤ 9223372036854775807) (w' : World) (hw : w'.heap[mb]? = w.heap[mb]?) :
    (∃ x ∈ S.dom, S.node x = vN v ∧ (Instr.lookup 92 (.map (some mb)) (.int .i64 v) true).run Tryz.prog w' = .ok (.tuple #[.pointer (some ⟨x, 0, none⟩), .bool true]) w') ∨
    ((∀ x ∈ S.dom, S.node x ≠ vN v) ∧ has D (kI v) = false ∧ (Instr.lookup 92 (.map (some mb)) (.int .i64 v) true).run Tryz.prog w' = .ok (.tuple #[.pointer none, .bool false]) w') := by
  have hm : w'.ownsMap Tryz.prog 2 PE mb n D := by
    obtain ⟨es', cl, hb, r⟩ := h.map
    exact ⟨es', cl, hw.trans hb, r⟩
  obtain ⟨u, ps, hr, hu⟩ := hm.look_ok law2 Tryz.underlying92 (zero79 w') (zd := .nil) (zp := []) rfl (key2 v h0 h1)
  cases hh : has D (kI v) with
  | true =>
    obtain ⟨x, hx, hn⟩ := h.only v hh
    have hk := (h.key x hx (by rw [hn]; rfl)).2
    rw [hn] at hk
    rw [show D.atKey (kI v) .nil = _ from hk] at hu
    obtain rfl := PE_inv hu
    rw [hh] at hr
    exact .inl ⟨x, hx, hn, hr⟩
  | false =>
    rw [atKey_of_not_has hh] at hu
    obtain rfl := PE_nil hu
    rw [hh] at hr
    refine .inr ⟨fun x hx hn => ?_, rfl, hr⟩
    have := (h.key x hx (by rw [hn]; rfl)).1
    rw [hn] at this
    rw [show has D (kI v) = true from this] at hh
    exact absurd hh (by decide)
end Go.Proofs.YtncifeeinogcnaaGreatDoor
/- What term's closure holds. -/
set_option maxRecDepth 100000
namespace Go.Proofs.YtncifeeinogcnaaGreatDoor
open Go.RowKit Go.Lib Go.Maps Go.Proofs.TreeMath

theorem slice_eq (b off n c k : Nat) (hk : k ≤ n) (hnc : n ≤ c) (W : World) :
    (Instr.sliceAt 22 (.slice (some ⟨b, off, none⟩) n c) (some (.int .i64 k)) none none).run Tryz.prog W = .ok (.slice (if c = k then some ⟨b, off, none⟩ else some ⟨b, off + k * 4, none⟩) (n - k) (c - k)) W := by
  have h0 : (0 : Int) ≤ k := by omega
  have h1 : (k : Int) ≤ n := by omega
  have h2 : k ≤ c := by omega
  by_cases hc : c = k
  · subst hc
    simp [go_sem, hk]
  · simp [go_sem, hk, hc]
/-- Types, as trees. -/
def okF : F → Prop
  | .nil => True
  | .cons n k r => ((n.kind = 31 ∧ n = vN n.num ∧ (0 ≤ n.num ∧ n.num ≤ 1048576) ∧ k = .nil) ∨ (n.kind = 32 ∧ n.kids = (k.cnt : Int))) ∧ okF k ∧ okF r
def app : F → F → F
  | .nil, g => g
  | .cons n k r, g => .cons n k (app r g)
structure RC (w : World) (tb s0 rb sb : Nat) (tv : Value) : Prop where
  t : w.heap[tb]? = some (.cells #[tv] 22 (0, 0))
  s : w.heap[s0]? = some (.cells #[pv sb] 61 (0, 0))
  r : w.heap[rb]? = some (.cells #[.func (.func 115) #[] #[pv tb, pv s0, pv rb]] 96 (0, 0))
def DBt (S : SS) (mb tb : Nat) (k : Nat) : Prop := k ∈ S.dom ∨ k = mb ∨ k = tb
def OffV (S : SS) (mb tb : Nat) (v : Value) : Prop := ∀ b o m c, v = .slice (some ⟨b, o, none⟩) m c → b ∉ S.dom ∧ b ≠ mb ∧ b ≠ tb
inductive RdP (S : SS) (tr : Nat → T) (es : List (T × T)) (sb mb n tb : Nat) (nx mrk : Int) (tv : Value) (t : T) (rest : List Nd) (w : World) (e : Ending) (w' : World) : Prop
  | mk (S' : SS) (tr' : Nat → T) (x n' : Nat) (D' : DM) (tv' : Value) (he : e = .returned (pv x)) (st : ST w'.heap.size w' S' tr' es sb mb n' D' nx mrk) (hx : x ∈ S'.dom) (ht : tr' x = t) (gr : Gro w S tr S' tr')
      (htb : w'.heap[tb]? = some (.cells #[tv'] 22 (0, 0))) (hns : NodesAt w' tv' rest) (hoff : ∀ b o m c, tv' = .slice (some ⟨b, o, none⟩) m c → ∃ o2 m2 c2, tv = .slice (some ⟨b, o2, none⟩) m2 c2)
      (fr : Frm (DBt S mb tb) w.heap.size w w') (hw : wa S' + 1 ≤ wa S + 2 * szT t) (hn : n' ≤ n + szT t)
def Rd (n : Nd) (k : F) : Prop := ∀ (S : SS) (tr : Nat → T) (es : List (T × T)) (sb mb m tb s0 rb : Nat) (D : DM) (nx mrk : Int) (tv : Value) (rest : List Nd) (w : World), ST w.heap.size w S tr es sb mb m D nx mrk → RC w tb s0 rb sb tv → NodesAt w tv (n :: (k.flat ++ rest)) → OffV S mb tb tv →
  wa S + 2 * (1 + k.sz) ≤ 100000000 → m + 1 + k.sz ≤ 100000000 → Calls Tryz.prog 115 #[pv tb, pv s0, pv rb] w (RdP S tr es sb mb m tb nx mrk tv (n, k) rest w)
def RdF : F → Prop
  | .nil => True
  | .cons n k r => Rd n k ∧ RdF r
end Go.Proofs.YtncifeeinogcnaaGreatDoor
/- term's closure: its kids, one by one. -/
set_option maxRecDepth 100000
namespace Go.Proofs.YtncifeeinogcnaaGreatDoor
open Go.RowKit Go.Lib Go.Maps Go.Proofs.TreeMath

structure LR (S : SS) (tr : Nat → T) (es : List (T × T)) (sb mb m tb s0 rb : Nat) (nx mrk : Int) (tv : Value) (n : Nd) (k : F) (rest : List Nd) (w : World) (X : Nat) (wr : World) (j : Nat) (S1 : SS) (tr1 : Nat → T) (m1 : Nat) (D1 : DM) (tv1 : Value) (ks : List Nat) (f2 : F) (kv : Value) : Prop where
  st : ST wr.heap.size wr S1 tr1 es sb mb m1 D1 nx mrk
  rc : RC wr tb s0 rb sb tv1
  ns : NodesAt wr tv1 (f2.flat ++ rest)
  off : ∀ b o m c, tv1 = .slice (some ⟨b, o, none⟩) m c → ∃ o2 m2 c2, tv = .slice (some ⟨b, o2, none⟩) m2 c2
  eq : k = app (fo tr1 ks) f2
  rd : RdF f2
  len : ks.length = j
  kin : ∀ y ∈ ks, y ∈ S1.dom
  wk : ∀ y ∈ ks, (S1.node (S1.rep y)).kind = 31 → S1.wi (S1.rep y) = true
  xb : wr.heap[X]? = some (.cells (tmCells n kv none false 0) 136 (0, 0))
  xw : w.heap.size ≤ X
  row : wr.ownsRow w.heap.size 93 1 kv j (ks.map pv)
  xd : X ∉ S1.dom
  sep : ∀ y ∈ S1.dom, S1.rep y = y → ∀ g, S1.row y = some g → kv.ownBlock ≠ some g
  gr : Gro w S tr S1 tr1
  fr : Frm (DBt S mb tb) w.heap.size w wr
  wz : wa S1 + j + 2 * f2.sz ≤ wa S + 2 * k.sz
  mm : m1 + f2.sz ≤ m + k.sz
section
variable {S : SS} {tr : Nat → T} {es : List (T × T)} {sb mb m tb s0 rb : Nat} {nx mrk : Int} {tv : Value} {n : Nd} {k : F} {rest : List Nd} {w : World} {X : Nat} {wr : World} {j : Nat} {S1 : SS} {tr1 : Nat → T} {m1 : Nat} {D1 : DM} {tv1 : Value} {ks : List Nat} {kv : Value} {a : Nd} {b r : F}
/-- What is so when a kid has been read, and it has been told that it is one. -/
structure LK (S : SS) (tr : Nat → T) (es : List (T × T)) (sb mb m tb s0 rb : Nat) (nx mrk : Int) (tv : Value) (n : Nd) (k : F) (rest : List Nd) (w : World) (X : Nat) (j : Nat) (ks : List Nat) (r : F) (kv : Value) (y : Nat) (w5 : World) (S3 : SS) (tr2 : Nat → T) (m2 : Nat) (D2 : DM) (tv2 : Value) : Prop where
  st : ST w5.heap.size w5 S3 tr2 es sb mb m2 D2 nx mrk
  rc : RC w5 tb s0 rb sb tv2
  ns : NodesAt w5 tv2 (r.flat ++ rest)
  off : ∀ b o m c, tv2 = .slice (some ⟨b, o, none⟩) m c → ∃ o2 m2 c2, tv = .slice (some ⟨b, o2, none⟩) m2 c2
  eq : k = app (fo tr2 (ks ++ [y])) r
  rd : RdF r
  len : ks.length = j
  kin : ∀ z ∈ ks ++ [y], z ∈ S3.dom
  wk : ∀ z ∈ ks ++ [y], (S3.node (S3.rep z)).kind = 31 → S3.wi (S3.rep z) = true
  xb : w5.heap[X]? = some (.cells (tmCells n kv none false 0) 136 (0, 0))
  xw : w.heap.size ≤ X
  row : w5.ownsRow w.heap.size 93 1 kv j (ks.map pv)
  xd : X ∉ S3.dom
  sep : ∀ z ∈ S3.dom, S3.rep z = z → ∀ g, S3.row z = some g → kv.ownBlock ≠ some g ∧ g < w5.heap.size
  gr : Gro w S tr S3 tr2
  fr : Frm (DBt S mb tb) w.heap.size w w5
  wz : wa S3 + (j + 1) + 2 * r.sz ≤ wa S + 2 * k.sz
  mm : m2 + r.sz ≤ m + k.sz
theorem row_lt (h : ST w.heap.size w S tr es sb mb m D1 nx mrk) {y : Nat} (hy : y ∈ S.dom) (hr : S.rep y = y) {g : Nat} (hg : S.row y = some g) : g < w.heap.size ∧ ∃ cur, w.heap[g]? = some (.cells cur 93 (0, 0)) := by
  obtain ⟨by_, kk⟩ := h.tw
  obtain ⟨_, kv, _, h3⟩ := kk.blk y hy
  have h4 := h3 ((kk.none_iff y).2 hr)
  have e := h4.r.trans hg
  exact ⟨h4.k.2 g e, h4.ty e⟩
end
end Go.Proofs.YtncifeeinogcnaaGreatDoor
/- term's closure: a kid is appended; all kids are read. -/
set_option maxRecDepth 100000
namespace Go.Proofs.YtncifeeinogcnaaGreatDoor
open Go.RowKit Go.Lib Go.Maps Go.Proofs.TreeMath

section
variable {S : SS} {tr : Nat → T} {es : List (T × T)} {sb mb m tb s0 rb : Nat} {nx mrk : Int} {tv : Value} {n : Nd} {k : F} {rest : List Nd} {w : World} {X : Nat} {j : Nat} {tr2 : Nat → T} {m2 : Nat} {D2 : DM} {tv2 : Value} {ks : List Nat} {kv : Value} {r : F} {y : Nat} {w5 : World} {S3 : SS}
theorem LK.step (h : LK S tr es sb mb m tb s0 rb nx mrk tv n k rest w X j ks r kv y w5 S3 tr2 m2 D2 tv2) (hbw : ∀ b o m c, tv = .slice (some ⟨b, o, none⟩) m c → b < w.heap.size) {w6 w7 : World} (b6 : Below w5.heap.size w5 w6) (g7 : w6.grownBy w7 kv.ownBlock) {kv2 : Value}
    (hrow : w7.ownsRow w.heap.size 93 1 kv2 (j + 1) (ks.map pv ++ [pv y])) (hblk : kv2.ownBlock = kv.ownBlock ∨ kv2.ownBlock = some w6.heap.size) :
    LR S tr es sb mb m tb s0 rb nx mrk tv n k rest w X (w7.setCell ⟨X, 4, none⟩ kv2) (j + 1) S3 tr2 m2 D2 tv2 (ks ++ [y]) r kv2 := by
  have hXl : X < w5.heap.size := (Array.getElem?_eq_some_iff.1 h.xb).1
  have hsz : w5.heap.size ≤ (w7.setCell ⟨X, 4, none⟩ kv2).heap.size := by have := b6.size; have := g7.size; simp [World.setCell]; omega
  have keep : ∀ g, g < w5.heap.size → g ≠ X → kv.ownBlock ≠ some g → (w7.setCell ⟨X, 4, none⟩ kv2).heap[g]? = w5.heap[g]? := fun g hg h1 h2 => by
    rw [Below.heap_setCell _ _ _ _ h1, g7.block g (by have := b6.size; omega) (fun e => h2 e.symm), b6.block g hg]
  have other : ∀ {g : Nat} {cs : Array Value} {T0 : TypeId}, w5.heap[g]? = some (.cells cs T0 (0, 0)) → T0 ≠ 93 → T0 ≠ 136 → (w7.setCell ⟨X, 4, none⟩ kv2).heap[g]? = w5.heap[g]? := fun {g cs T0} hg h79 h101 => by
    refine keep g (Array.getElem?_eq_some_iff.1 hg).1 ?_ fun e => ?_
    · rintro rfl
      rw [h.xb] at hg
      simp only [Option.some.injEq, Obj.cells.injEq] at hg
      exact h101 hg.2.1.symm
    · obtain ⟨cur, hc⟩ := row_ty h.row e
      rw [hc] at hg
      simp only [Option.some.injEq, Obj.cells.injEq] at hg
      exact h79 hg.2.1.symm
  have nrow : ∀ g, kv.ownBlock = some g → w.heap.size ≤ g ∧ g < w5.heap.size ∧ ∃ cur, w5.heap[g]? = some (.cells cur 93 (0, 0)) := fun g hg => ⟨(World.ownsRow.there h.row hg).1, (World.ownsRow.there h.row hg).2, row_ty h.row hg⟩
  have st8 : ST w5.heap.size (w7.setCell ⟨X, 4, none⟩ kv2) S3 tr2 es sb mb m2 D2 nx mrk := by
    refine h.st.other hsz fun g hg hc => ?_
    rcases hc with hd | rfl | rfl | ⟨x, hx, hr, hg2⟩
    · refine keep g hg (by rintro rfl; exact h.xd hd) fun e => ?_
      obtain ⟨_, _, cur, hc⟩ := nrow g e
      obtain ⟨_, cs, hc2⟩ := h.st.tw.blk hd
      rw [hc] at hc2; simp at hc2
    · exact other h.st.sbk (by decide) (by decide)
    · refine keep g hg (by rintro rfl; exact map_ne h.st.map h.xb rfl) fun e => ?_
      obtain ⟨_, _, cur, hc⟩ := nrow g e
      exact map_ne h.st.map hc rfl
    · have := h.sep x hx hr g hg2
      refine keep g hg ?_ this.1
      rintro rfl
      obtain ⟨_, cur, hc⟩ := row_lt h.st hx hr hg2
      rw [h.xb] at hc; simp at hc
  refine ⟨st8.raise hsz (Nat.le_refl _), ⟨(other h.rc.t (by decide) (by decide)).trans h.rc.t, (other h.rc.s (by decide) (by decide)).trans h.rc.s, (other h.rc.r (by decide) (by decide)).trans h.rc.r⟩, ?_, h.off, h.eq, h.rd, by rw [List.length_append, List.length_singleton, h.len], h.kin, h.wk, ?_, h.xw, ?_, h.xd, fun z hz hr g hg => ?_, h.gr, ?_, h.wz, h.mm⟩
  · obtain ⟨g1, p, cap, e, g2, g3, g4⟩ := h.ns
    refine ⟨g1, p, cap, e, g2, g3, fun h0 => ?_⟩
    obtain ⟨b', off', rfl, gb, gc⟩ := g4 h0
    obtain ⟨o2, m2', c2, e2⟩ := h.off b' off' _ cap e
    have hb := hbw b' o2 m2' c2 e2
    exact ⟨b', off', rfl, Nat.lt_of_lt_of_le gb hsz, gc.kept (keep b' gb (by have := h.xw; omega) fun e3 => by have := (nrow b' e3).1; omega)⟩
  · have hX7 : w7.heap[X]? = some (.cells (tmCells n kv none false 0) 136 (0, 0)) := by
      rw [g7.block X (by have := b6.size; omega) ?_, b6.block X hXl]
      · exact h.xb
      · intro e
        obtain ⟨_, _, cur, hc⟩ := nrow X e.symm
        rw [h.xb] at hc; simp at hc
    rw [set_blk hX7]
    rfl
  · have e : (ks ++ [y]).map pv = ks.map pv ++ [pv y] := by simp
    rw [e]
    refine World.ownsRow.keep hrow fun g hg => Below.heap_setCell _ _ _ _ ?_
    show g ≠ X
    rintro rfl
    obtain ⟨cur, hc⟩ := row_ty hrow hg
    rcases hblk with e2 | e2
    · obtain ⟨_, _, cur2, hc2⟩ := nrow g (e2.symm.trans hg)
      rw [h.xb] at hc2; simp at hc2
    · rw [hg] at e2
      simp only [Option.some.injEq] at e2
      have := b6.size
      omega
  · have h2 := h.sep z hz hr g hg
    intro e
    rcases hblk with e2 | e2
    · exact h2.1 (e2.symm.trans e)
    · rw [e] at e2
      simp only [Option.some.injEq] at e2
      have := b6.size
      omega
  · refine h.fr.trans (Frm.of_below ?_)
    have hw5 := h.fr.size
    exact (((b6.mono hw5).grown g7 (by have := b6.size; omega) fun g e => (nrow g e).1).setCell h.xw _)
end
end Go.Proofs.YtncifeeinogcnaaGreatDoor
/- What circular holds. -/
set_option maxRecDepth 100000
namespace Go.Proofs.YtncifeeinogcnaaGreatDoor
open Go.RowKit Go.Lib Go.Proofs.TreeMath

/-- Terms on the way, the last one first. -/
def PathAt (C : Nat) (w : World) (v : Value) (P : List Nat) : Prop := w.ownsRow C 93 1 v P.length (P.reverse.map pv)
def DS (S : SS) (sb : Nat) (k : Nat) : Prop := k ∈ S.dom ∨ k = sb
structure CR (B C sb : Nat) (S : SS) (nx : Value) (mv : Value) (mrk : Int) (w wr : World) (v : Value) (P : List Nat) (mk : Nat → Int) : Prop where
  tw : TW B wr { S with mr := mk }
  path : PathAt C wr v P
  st : wr.heap[sb]? = some (.cells #[nx, mv, .int .i64 mrk] 95 (0, 0))
  fr : Frm (DS S sb) w.heap.size w wr
  le : C ≤ wr.heap.size
section
variable {B C sb : Nat} {S : SS} {nx mv : Value} {mrk : Int} {w wr : World} {v : Value} {P : List Nat} {mk : Nat → Int}
/-- One more is on the way. -/
theorem CR.more (h : CR B C sb S nx mv mrk w wr v P mk) (hBC : B ≤ C) (hwC : w.heap.size ≤ C) {w1 w2 : World} (b1 : Below wr.heap.size wr w1) (g : w1.grownBy w2 v.ownBlock) {nv : Value} {y : Nat} (hn : w2.ownsRow C 93 1 nv (P.length + 1) (P.reverse.map pv ++ [pv y])) :
    CR B C sb S nx mv mrk w w2 nv (y :: P) mk := by
  have b2 : Below C wr w2 := (b1.mono h.le).grown g (Nat.le_trans h.le b1.size) fun k e => (World.ownsRow.there h.path e).1
  have hsl : sb < wr.heap.size := (Array.getElem?_eq_some_iff.1 h.st).1
  refine ⟨h.tw.below (b2.mono hBC), ?_, ?_, h.fr.trans (Frm.of_below (b2.mono hwC)), Nat.le_trans h.le b2.size⟩
  · unfold PathAt
    have e : (y :: P).reverse.map pv = P.reverse.map pv ++ [pv y] := by simp
    rw [e]; exact hn
  · have ns : some sb ≠ v.ownBlock := fun e => by
      obtain ⟨cur, hc⟩ := row_ty h.path e.symm
      rw [h.st] at hc; simp at hc
    exact (g.block sb (Nat.lt_of_lt_of_le hsl b1.size) ns).trans ((b1.block sb hsl).trans h.st)
end
end Go.Proofs.YtncifeeinogcnaaGreatDoor
/- Types as trees; an equation more. -/
set_option maxRecDepth 100000
namespace Go.Proofs.YtncifeeinogcnaaGreatDoor
open Go.RowKit Go.Lib Go.Maps Go.Proofs.TreeMath

theorem empty_text {s : ByteArray} (h : s.data.toList.isEmpty = true) : s = ⟨#[]⟩ := by
  obtain ⟨⟨l⟩⟩ := s
  simp at h
  subst h
  rfl
def DU (S : SS) (sb mb : Nat) (k : Nat) : Prop := k ∈ S.dom ∨ k = mb ∨ k = sb
end Go.Proofs.YtncifeeinogcnaaGreatDoor
/- A store's Unify: what is so behind its parts. -/
set_option maxRecDepth 100000
namespace Go.Proofs.YtncifeeinogcnaaGreatDoor
open Go.RowKit Go.Lib Go.Maps Go.Proofs.TreeMath

/-- Both types are terms. -/
structure Two (S : SS) (es : List (T × T)) (sb mb m : Nat) (nx mrk : Int) (ta tb : T) (w : World) (pb : Nat) (w5 : World) (S2 : SS) (tr2 : Nat → T) (x y m2 : Nat) (D2 : DM) : Prop where
  st : ST w5.heap.size w5 S2 tr2 es sb mb m2 D2 nx mrk
  hx : x ∈ S2.dom
  hy : y ∈ S2.dom
  tx : tr2 x = ta
  ty : tr2 y = tb
  new : ∀ z ∈ S2.dom, z ∈ S.dom ∨ w.heap.size ≤ z
  hp : w5.heap[pb]? = some (.cells #[.slice none 0 0, .slice none 0 0] 128 (0, 0))
  hpw : w.heap.size ≤ pb
  fr : Frm (DB S mb) w.heap.size w w5
  wz : wa S2 + 2 ≤ wa S + 2 * (szT ta + szT tb)
  mm : m2 ≤ m + (szT ta + szT tb)
theorem Two.frm {S : SS} {es : List (T × T)} {sb mb m : Nat} {nx mrk : Int} {ta tb : T} {w : World} {pb : Nat} {w5 w6 w7 : World} {S2 : SS} {tr2 : Nat → T} {x y m2 : Nat} {D2 : DM} (h : Two S es sb mb m nx mrk ta tb w pb w5 S2 tr2 x y m2 D2) (fr : Frm (S2.Dp pb) w5.heap.size w5 w6) : Frm (DU S sb mb) w.heap.size w w6 ∧ (Frm (DS S2 sb) w6.heap.size w6 w7 → Frm (DU S sb mb) w.heap.size w w7) := by
  have f6 : Frm (DU S sb mb) w.heap.size w w6 := by
    refine (h.fr.mono (Nat.le_refl _) fun k _ hd => ?_).trans (fr.mono h.fr.size fun k hk hd => ?_)
    · rcases hd with hd | hd
      · exact .inl hd
      · exact .inr (.inl hd)
    · rcases hd with hd | hd
      · rcases h.new k hd with e | e
        · exact .inl e
        · omega
      · have := h.hpw; omega
  refine ⟨f6, fun f7 => f6.trans (f7.mono f6.size fun k hk hd => ?_)⟩
  rcases hd with hd | hd
  · rcases h.new k hd with e | e
    · exact .inl e
    · omega
  · exact .inr (.inr hd)
end Go.Proofs.YtncifeeinogcnaaGreatDoor
