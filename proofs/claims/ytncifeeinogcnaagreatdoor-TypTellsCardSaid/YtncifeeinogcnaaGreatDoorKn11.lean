/- Texts of this seat, one behind the other: TyT, TyU, TyV. -/
import Derived.Test.YtncifeeinogcnaaGreatDoorKn10
import Derived.Test.YtncifeeinogcnaaGreatDoorKn05
/- What term's closure holds. -/
set_option maxRecDepth 100000
namespace Go.Proofs.YtncifeeinogcnaaGreatDoor
open Go.RowKit Go.Lib Go.Maps Go.Proofs.TreeMath

theorem slice_eq (b off n c k : Nat) (hk : k ≤ n) (hnc : n ≤ c) (W : World) :
    (Instr.sliceAt 22 (.slice (some ⟨b, off, none⟩) n c) (some (.int .i64 k)) none none).run Tryz.prog W = .ok (.slice (if c = k then some ⟨b, off, none⟩ else some ⟨b, off + k * 4, none⟩) (n - k) (c - k)) W := by
  have h0 : (0 : Int) ≤ k := by omega
  have h1 : (k : Int) ≤ n := by omega
  have h2 : k ≤ c := by omega
  by_cases hc : c = k
  · subst hc
    simp [go_sem, hk]
  · simp [go_sem, hk, hc]
/-- A slice of nodes without its first one. -/
theorem cut_one {w : World} {b off m c : Nat} {x : Nd} {ns : List Nd} (h : NodesAt w (.slice (some ⟨b, off, none⟩) (m + 1) c) (x :: ns)) :
    ∃ o2, (∀ W, (Instr.sliceAt 22 (.slice (some ⟨b, off, none⟩) (m + 1) c) (some (.int .i64 1)) none none).run Tryz.prog W = .ok (.slice (some ⟨b, o2, none⟩) m (c - 1)) W) ∧ NodesAt w (.slice (some ⟨b, o2, none⟩) m (c - 1)) ns := by
  obtain ⟨h1, p, cap, e, hnc, hcm, h4⟩ := h
  simp only [Value.slice.injEq] at e
  obtain ⟨rfl, hm, rfl⟩ := e
  obtain ⟨b', off', e, hb, hc⟩ := h4 (by simp)
  simp only [Option.some.injEq, Addr.mk.injEq, and_true] at e
  obtain ⟨rfl, rfl⟩ := e
  simp only [List.length_cons] at hm hnc
  have hm' : m = ns.length := by omega
  subst hm'
  refine ⟨if c = 1 then off else off + 4, fun W => ?_, length_nodeCells ns, _, c - 1, rfl, by omega, by omega, fun h0 => ⟨b, _, rfl, hb, fun j u hj => ?_⟩⟩
  · have := slice_eq b off (ns.length + 1) c 1 (by omega) (by omega) W
    simp only [Nat.add_sub_cancel, Nat.one_mul] at this
    refine Eq.trans this ?_
    split <;> rfl
  · rw [if_neg (by omega)]
    have := hc (4 + j) u (by
      have e : nodeCells (x :: ns) = x.cells ++ nodeCells ns := by simp [nodeCells]
      rw [e, List.getElem?_append_right (by simp [Nd.cells])]
      simpa [Nd.cells] using hj)
    rw [← Nat.add_assoc] at this
    exact this
theorem nodes_cons {w : World} {v : Value} {x : Nd} {ns : List Nd} (h : NodesAt w v (x :: ns)) : ∃ b off c, v = .slice (some ⟨b, off, none⟩) (ns.length + 1) c ∧ b < w.heap.size ∧ ns.length + 1 ≤ c ∧ c ≤ maxLen ∧
    w.cell? ⟨b, off, none⟩ = some (.int .i64 x.kind) ∧ w.cell? ⟨b, off + 1, none⟩ = some (.string x.text) ∧ w.cell? ⟨b, off + 2, none⟩ = some (.int .i64 x.num) ∧ w.cell? ⟨b, off + 3, none⟩ = some (.int .i64 x.kids) := by
  obtain ⟨h1, p, cap, rfl, hnc, hcm, h4⟩ := h
  obtain ⟨b, off, rfl, hb, hc⟩ := h4 (by simp)
  have := hc.node 0 (by simp)
  simp only [Nat.zero_mul, Nat.add_zero, List.getD_cons_zero] at this
  exact ⟨b, off, cap, rfl, hb, hnc, hcm, this⟩
/-- Types, as trees. -/
def okF : F → Prop
  | .nil => True
  | .cons n k r => ((n.kind = 31 ∧ n = vN n.num ∧ (0 ≤ n.num ∧ n.num ≤ 1048576) ∧ k = .nil) ∨ (n.kind = 32 ∧ n.kids = (k.cnt : Int))) ∧ okF k ∧ okF r
def app : F → F → F
  | .nil, g => g
  | .cons n k r, g => .cons n k (app r g)
theorem fo_app (tr : Nat → T) (a b : List Nat) : fo tr (a ++ b) = app (fo tr a) (fo tr b) := by
  induction a with
  | nil => rfl
  | cons i a ih => simp only [List.cons_append, fo, app, ih]
theorem app_assoc (f g h : F) : app (app f g) h = app f (app g h) := by
  induction f with
  | nil => rfl
  | cons n k r _ ih => simp only [app, ih]
theorem app_nil (f : F) : app f .nil = f := by
  induction f with
  | nil => rfl
  | cons n k r _ ih => simp only [app, ih]
theorem fo_cnt (tr : Nat → T) (l : List Nat) : (fo tr l).cnt = l.length := by
  induction l with
  | nil => rfl
  | cons i l ih => simp only [fo, F.cnt, ih, List.length_cons]
theorem cnt_app (f g : F) : (app f g).cnt = f.cnt + g.cnt := by
  induction f with
  | nil => simp [app, F.cnt]
  | cons n k r _ ih => simp only [app, F.cnt, ih]; omega
structure RC (w : World) (tb s0 rb sb : Nat) (tv : Value) : Prop where
  t : w.heap[tb]? = some (.cells #[tv] 22 (0, 0))
  s : w.heap[s0]? = some (.cells #[pv sb] 61 (0, 0))
  r : w.heap[rb]? = some (.cells #[.func (.func 115) #[] #[pv tb, pv s0, pv rb]] 96 (0, 0))
def DBt (S : SS) (mb tb : Nat) (k : Nat) : Prop := k ∈ S.dom ∨ k = mb ∨ k = tb
def OffV (S : SS) (mb tb : Nat) (v : Value) : Prop := ∀ b o m c, v = .slice (some ⟨b, o, none⟩) m c → b ∉ S.dom ∧ b ≠ mb ∧ b ≠ tb
inductive RdP (S : SS) (tr : Nat → T) (es : List (T × T)) (sb mb n tb : Nat) (nx mrk : Int) (tv : Value) (t : T) (rest : List Nd) (w : World) (e : Ending) (w' : World) : Prop
  | mk (S' : SS) (tr' : Nat → T) (x n' : Nat) (D' : DM) (tv' : Value) (he : e = .returned (pv x)) (st : ST w'.heap.size w' S' tr' es sb mb n' D' nx mrk) (hx : x ∈ S'.dom) (ht : tr' x = t) (gr : Gro w S tr S' tr')
      (htb : w'.heap[tb]? = some (.cells #[tv'] 22 (0, 0))) (hns : NodesAt w' tv' rest) (hoff : ∀ b o m c, tv' = .slice (some ⟨b, o, none⟩) m c → ∃ o2 m2 c2, tv = .slice (some ⟨b, o2, none⟩) m2 c2)
      (fr : Frm (DBt S mb tb) w.heap.size w w') (hw : wa S' + 1 ≤ wa S + 2 * szT t) (hn : n' ≤ n + szT t)
def Rd (n : Nd) (k : F) : Prop := ∀ (S : SS) (tr : Nat → T) (es : List (T × T)) (sb mb m tb s0 rb : Nat) (D : DM) (nx mrk : Int) (tv : Value) (rest : List Nd) (w : World), ST w.heap.size w S tr es sb mb m D nx mrk → RC w tb s0 rb sb tv → NodesAt w tv (n :: (k.flat ++ rest)) → OffV S mb tb tv →
  wa S + 2 * (1 + k.sz) ≤ 100000000 → m + 1 + k.sz ≤ 100000000 → Calls Tryz.prog 115 #[pv tb, pv s0, pv rb] w (RdP S tr es sb mb m tb nx mrk tv (n, k) rest w)
def RdF : F → Prop
  | .nil => True
  | .cons n k r => Rd n k ∧ RdF r
theorem ST.ne22 {B : Nat} {w : World} {S : SS} {tr : Nat → T} {es : List (T × T)} {sb mb n : Nat} {D : DM} {nx mrk : Int} (h : ST B w S tr es sb mb n D nx mrk) {x : Nat} {cs : Array Value} {T0 : TypeId} (hx : w.heap[x]? = some (.cells cs T0 (0, 0))) (h1 : T0 ≠ 136) (h2 : T0 ≠ 95) : x ∉ S.dom ∧ x ≠ mb ∧ x ≠ sb := by
  refine ⟨fun hd => ?_, map_ne h.map hx, ?_⟩
  · obtain ⟨_, cs2, hc⟩ := h.tw.blk hd
    rw [hx] at hc
    simp only [Option.some.injEq, Obj.cells.injEq] at hc
    exact h1 hc.2.1
  · rintro rfl
    rw [h.sbk] at hx
    simp only [Option.some.injEq, Obj.cells.injEq] at hx
    exact h2 hx.2.1.symm
end Go.Proofs.YtncifeeinogcnaaGreatDoor
/- The contract of term's closure. -/
set_option maxRecDepth 100000
namespace Go.Proofs.YtncifeeinogcnaaGreatDoor
open Go.RowKit Go.Lib Go.Maps Go.Proofs.TreeMath

/-- The first node is taken: a block of its own, the rest stays. -/
structure Took (S : SS) (tr : Nat → T) (es : List (T × T)) (sb mb m tb s0 rb : Nat) (D : DM) (nx mrk : Int) (b o2 l c : Nat) (rest : List Nd) (w w1 : World) : Prop where
  st : ST w1.heap.size w1 S tr es sb mb m D nx mrk
  rc : RC w1 tb s0 rb sb (.slice (some ⟨b, o2, none⟩) l c)
  ns : NodesAt w1 (.slice (some ⟨b, o2, none⟩) l c) rest
  fr : Frm (DBt S mb tb) w.heap.size w w1
  sz : w.heap.size ≤ w1.heap.size
theorem took {S : SS} {tr : Nat → T} {es : List (T × T)} {sb mb m tb s0 rb : Nat} {D : DM} {nx mrk : Int} {b o2 l c : Nat} {rest : List Nd} {tv : Value} {w : World} (h : ST w.heap.size w S tr es sb mb m D nx mrk) (hr : RC w tb s0 rb sb tv) (hn : NodesAt w (.slice (some ⟨b, o2, none⟩) l c) rest)
    (ho : b ≠ tb) (o : Obj) : Took S tr es sb mb m tb s0 rb D nx mrk b o2 l c rest w ((w.alloc o).setCell ⟨tb, 0, none⟩ (.slice (some ⟨b, o2, none⟩) l c)) := by
  have ba : Below w.heap.size w (w.alloc o) := (Below.refl _ _).alloc (Nat.le_refl _) o
  obtain ⟨t1, t2, t3⟩ := h.ne22 hr.t (by decide) (by decide)
  have htl : tb < w.heap.size := (Array.getElem?_eq_some_iff.1 hr.t).1
  have ta := (ba.block tb htl).trans hr.t
  have nst : s0 ≠ tb := by rintro rfl; have := hr.s; rw [hr.t] at this; simp at this
  have nrt : rb ≠ tb := by rintro rfl; have := hr.r; rw [hr.t] at this; simp at this
  have keep : ∀ k, k < w.heap.size → k ≠ tb → ((w.alloc o).setCell ⟨tb, 0, none⟩ (.slice (some ⟨b, o2, none⟩) l c)).heap[k]? = w.heap[k]? := fun k hk hne => by
    rw [Below.heap_setCell _ _ _ _ hne, ba.block k hk]
  have hsz : w.heap.size ≤ ((w.alloc o).setCell ⟨tb, 0, none⟩ (.slice (some ⟨b, o2, none⟩) l c)).heap.size := by simp [World.setCell]
  have st2 : ST w.heap.size ((w.alloc o).setCell ⟨tb, 0, none⟩ (.slice (some ⟨b, o2, none⟩) l c)) S tr es sb mb m D nx mrk := by
    refine ⟨h.core, ?_, (keep sb h.bnd.1 t3.symm).trans h.sbk, ?_, h.bnd, h.key, h.only, h.mle, h.pos, h.rng⟩
    · obtain ⟨y, k⟩ := h.tw
      refine ⟨y, k.lead, k.bin, fun x hx => ?_, k.kin, hsz⟩
      obtain ⟨h1, kv, h2, h3⟩ := k.blk x hx
      refine ⟨h1, kv, (keep x h1 (fun e => t1 (e ▸ hx))).trans h2, fun e => (h3 e).of_block fun g hg => keep g ((h3 e).k.2 g hg) ?_⟩
      rintro rfl
      obtain ⟨cur, hc⟩ := (h3 e).ty hg
      rw [hr.t] at hc; simp at hc
    · obtain ⟨es', cl, hb, r⟩ := h.map
      exact ⟨es', cl, (keep mb h.bnd.2 t2.symm).trans hb, r⟩
  refine ⟨st2.raise hsz (Nat.le_refl _), ⟨by rw [set_blk ta]; rfl, (keep s0 (Array.getElem?_eq_some_iff.1 hr.s).1 nst).trans hr.s, (keep rb (Array.getElem?_eq_some_iff.1 hr.r).1 nrt).trans hr.r⟩, ?_, (Frm.of_below ba).setCell (x := tb) (i := 0) (.inr (.inr rfl)) _, hsz⟩
  obtain ⟨h1, p, cap, e, h2, h3, h4⟩ := hn
  refine ⟨h1, p, cap, e, h2, h3, fun h0 => ?_⟩
  obtain ⟨b', off, rfl, hb, hc⟩ := h4 h0
  simp only [Value.slice.injEq, Option.some.injEq, Addr.mk.injEq, and_true] at e
  obtain ⟨⟨rfl, rfl⟩, _⟩ := e
  exact ⟨b, o2, rfl, Nat.lt_of_lt_of_le hb hsz, hc.kept (keep b hb ho)⟩
set_option maxHeartbeats 4000000 in
theorem rd_var (v : Int) (hv : 0 ≤ v ∧ v ≤ 1048576) : Rd (vN v) .nil := by
  intro S tr es sb mb m tb s0 rb D nx mrk tv rest w h hr hns ho hwa hm
  simp only [F.flat, List.nil_append] at hns
  obtain ⟨b, off, c, rfl, hb, hnc, hcm, n0, n1, n2, n3⟩ := nodes_cons hns
  obtain ⟨l, hl⟩ : ∃ l, l = rest.length := ⟨_, rfl⟩
  rw [← hl] at hns hr ho ⊢
  rw [← hl] at hnc
  obtain ⟨o2, hcut, hn2⟩ := cut_one hns
  obtain ⟨ob1, ob2, ob3⟩ := ho b off (l + 1) c rfl
  have TK := Lib.hid (took h hr hn2 ob3 (.cells #[.int .i64 31, .string ⟨#[]⟩, .int .i64 v, .int .i64 0] 58))
  have c0 := cell_of_heap hr.t 0
  have cs0 := cell_of_heap hr.s 0
  have f0 := frozen_of_heap hr.t 0
  simp only [List.getElem?_toArray, List.getElem?_cons_zero] at c0 cs0
  have htl : tb < w.heap.size := (Array.getElem?_eq_some_iff.1 hr.t).1
  have hsl : s0 < w.heap.size := (Array.getElem?_eq_some_iff.1 hr.s).1
  have nst : s0 ≠ tb := by rintro rfl; have := hr.s; rw [hr.t] at this; simp at this
  have ba : Below w.heap.size w (w.alloc (.cells #[.int .i64 31, .string ⟨#[]⟩, .int .i64 v, .int .i64 0] 58)) := (Below.refl _ _).alloc (Nat.le_refl _) _
  have c0a := (ba.cell (p := ⟨tb, 0, none⟩) htl).trans c0
  have f0a := (ba.frozen (p := ⟨tb, 0, none⟩) htl).trans f0
  have s0a : ((w.alloc (.cells #[.int .i64 31, .string ⟨#[]⟩, .int .i64 v, .int .i64 0] 58)).setCell ⟨tb, 0, none⟩ (.slice (some ⟨b, o2, none⟩) l (c - 1))).cell? ⟨s0, 0, none⟩ = some (pv sb) := by
    rw [World.cell?_of_block (w := w) (a := ⟨s0, 0, none⟩)]
    · exact cs0
    · rw [Below.heap_setCell _ _ _ _ nst, ba.block s0 hsl]
  have hcm9 : c ≤ 9223372036854775807 := by unfold maxLen at hcm; omega
  have hnc2 : 1 ≤ c := by omega
  rw [World.setCell_alloc_past _ _ _ _ htl] at s0a
  obtain ⟨w1, hw1⟩ : ∃ w1, w1 = (w.setCell ⟨tb, 0, none⟩ (.slice (some ⟨b, o2, none⟩) l (c - 1))).alloc (.cells #[.int .i64 31, .string ⟨#[]⟩, .int .i64 v, .int .i64 0] 58) := ⟨_, rfl⟩
  have hq : w1.heap[w.heap.size]? = some (.cells #[.int .i64 31, .string ⟨#[]⟩, .int .i64 v, .int .i64 0] 58 (0, 0)) := by
    rw [hw1, ← World.setCell_alloc_past _ _ _ _ htl, Below.heap_setCell _ _ _ _ (by show w.heap.size ≠ tb; omega)]
    exact alloc_top _ _
  have q0 := cell_of_heap hq 0
  have q1 := cell_of_heap hq 1
  have q2 := cell_of_heap hq 2
  have q3 := cell_of_heap hq 3
  rw [hw1] at q0 q1 q2 q3
  have TK2 : Hid (Took S tr es sb mb m tb s0 rb D nx mrk b o2 l (c - 1) rest w w1) := by rw [hw1, ← World.setCell_alloc_past _ _ _ _ htl]; exact TK.out
  have VC := Lib.hid (var_any w1.heap.size S tr es sb mb m D nx mrk v w1 TK2.out.st hv (by omega))
  have HL := Lib.hid hl
  have OB := Lib.hid (And.intro ob1 (And.intro ob2 ob3))
  have HW := Lib.hid hw1
  have NST := Lib.hid nst
  clear h hr hns ho hn2 TK cs0 f0 hl hq ba hw1 ob1 ob2 ob3
  unfold vN at n0 n1 n2 n3
  simp only at n0 n1 n2 n3
  unfold pv at s0a ⊢
  unfold pv Nd.val vN at VC
  go_enter Tryz.func115, Tryz.ntmps115
  go_wp2_with fail
  rw [← HW.out]
  clear q0 q1 q2 q3 s0a c0a f0a
  refine Calls.mono VC.out ?_
  rintro e w2 ⟨S', tr', x, n', D', rfl, st, hx, ht, gr, fr, hw, hn⟩
  have hT := TK2.out
  have htd := hT.st.ne22 hT.rc.t (by decide) (by decide)
  have hbo := OB.out
  have E : Hid (RdP S tr es sb mb m tb nx mrk (.slice (some ⟨b, off, none⟩) (l + 1) c) (⟨31, ⟨#[]⟩, v, 0⟩, F.nil) rest w (.returned (.pointer (some ⟨x, 0, none⟩))) w2) := by
    refine .mk S' tr' x n' D' (.slice (some ⟨b, o2, none⟩) l (c - 1)) rfl st hx ht ⟨gr.dom, fun y hy => ?_, gr.tr, gr.node, gr.rep, gr.wi, fun y hy => (gr.row y hy).imp id fun e g hg => Nat.le_trans hT.sz (e g hg)⟩ ?_ ?_ (fun b' o' m' c' e => ?_) (hT.fr.trans (fr.mono hT.sz fun k _ hd => ?_)) ?_ ?_
    · rcases gr.new y hy with e | e
      · exact .inl e
      · exact .inr (Nat.le_trans hT.sz e)
    · exact (fr.block tb (Array.getElem?_eq_some_iff.1 hT.rc.t).1 fun hd => by
        rcases hd with hd | hd
        · exact htd.1 hd
        · exact htd.2.1 hd).trans hT.rc.t
    · obtain ⟨g1, p, cap, e, g2, g3, g4⟩ := hT.ns
      refine ⟨g1, p, cap, e, g2, g3, fun h0 => ?_⟩
      obtain ⟨b', off', rfl, gb, gc⟩ := g4 h0
      simp only [Value.slice.injEq, Option.some.injEq, Addr.mk.injEq, and_true] at e
      obtain ⟨⟨rfl, rfl⟩, _⟩ := e
      exact ⟨b, o2, rfl, Nat.lt_of_lt_of_le gb fr.size, gc.kept (fr.block b gb fun hd => by
        rcases hd with hd | hd
        · exact hbo.1 hd
        · exact hbo.2.1 hd)⟩
    · simp only [Value.slice.injEq, Option.some.injEq, Addr.mk.injEq, and_true] at e
      obtain ⟨⟨rfl, rfl⟩, rfl, rfl⟩ := e
      exact ⟨off, _, _, rfl⟩
    · rcases hd with hd | hd
      · exact .inl hd
      · exact .inr (.inl hd)
    · simp only [szT, F.sz]; omega
    · simp only [szT, F.sz]; omega
  clear st hx ht gr fr hw hn hT htd hbo TK2 VC
  unfold pv vN
  go_wp2
  go_ret
  exact E.out
end Go.Proofs.YtncifeeinogcnaaGreatDoor
/- term's closure: its kids, one by one. -/
set_option maxRecDepth 100000
namespace Go.Proofs.YtncifeeinogcnaaGreatDoor
open Go.RowKit Go.Lib Go.Maps Go.Proofs.TreeMath

structure LR (S : SS) (tr : Nat → T) (es : List (T × T)) (sb mb m tb s0 rb : Nat) (nx mrk : Int) (tv : Value) (n : Nd) (k : F) (rest : List Nd) (w : World) (X : Nat) (wr : World) (j : Nat) (S1 : SS) (tr1 : Nat → T) (m1 : Nat) (D1 : DM) (tv1 : Value) (ks : List Nat) (f2 : F) (kv : Value) : Prop where
  st : ST wr.heap.size wr S1 tr1 es sb mb m1 D1 nx mrk
  rc : RC wr tb s0 rb sb tv1
  ns : NodesAt wr tv1 (f2.flat ++ rest)
  off : ∀ b o m c, tv1 = .slice (some ⟨b, o, none⟩) m c → ∃ o2 m2 c2, tv = .slice (some ⟨b, o2, none⟩) m2 c2
  eq : k = app (fo tr1 ks) f2
  rd : RdF f2
  len : ks.length = j
  kin : ∀ y ∈ ks, y ∈ S1.dom
  wk : ∀ y ∈ ks, (S1.node (S1.rep y)).kind = 31 → S1.wi (S1.rep y) = true
  xb : wr.heap[X]? = some (.cells (tmCells n kv none false 0) 136 (0, 0))
  xw : w.heap.size ≤ X
  row : wr.ownsRow w.heap.size 93 1 kv j (ks.map pv)
  xd : X ∉ S1.dom
  sep : ∀ y ∈ S1.dom, S1.rep y = y → ∀ g, S1.row y = some g → kv.ownBlock ≠ some g
  gr : Gro w S tr S1 tr1
  fr : Frm (DBt S mb tb) w.heap.size w wr
  wz : wa S1 + j + 2 * f2.sz ≤ wa S + 2 * k.sz
  mm : m1 + f2.sz ≤ m + k.sz
def LRx (S : SS) (tr : Nat → T) (es : List (T × T)) (sb mb m tb s0 rb : Nat) (nx mrk : Int) (tv : Value) (n : Nd) (k : F) (rest : List Nd) (w : World) (X : Nat) (wr : World) (j : Nat) : Prop :=
  ∃ S1 tr1 m1 D1 tv1 ks f2 kv, LR S tr es sb mb m tb s0 rb nx mrk tv n k rest w X wr j S1 tr1 m1 D1 tv1 ks f2 kv
section
variable {S : SS} {tr : Nat → T} {es : List (T × T)} {sb mb m tb s0 rb : Nat} {nx mrk : Int} {tv : Value} {n : Nd} {k : F} {rest : List Nd} {w : World} {X : Nat} {wr : World} {j : Nat} {S1 : SS} {tr1 : Nat → T} {m1 : Nat} {D1 : DM} {tv1 : Value} {ks : List Nat} {kv : Value} {a : Nd} {b r : F}
/-- What is so when a kid has been read, and it has been told that it is one. -/
structure LK (S : SS) (tr : Nat → T) (es : List (T × T)) (sb mb m tb s0 rb : Nat) (nx mrk : Int) (tv : Value) (n : Nd) (k : F) (rest : List Nd) (w : World) (X : Nat) (j : Nat) (ks : List Nat) (r : F) (kv : Value) (y : Nat) (w5 : World) (S3 : SS) (tr2 : Nat → T) (m2 : Nat) (D2 : DM) (tv2 : Value) : Prop where
  st : ST w5.heap.size w5 S3 tr2 es sb mb m2 D2 nx mrk
  rc : RC w5 tb s0 rb sb tv2
  ns : NodesAt w5 tv2 (r.flat ++ rest)
  off : ∀ b o m c, tv2 = .slice (some ⟨b, o, none⟩) m c → ∃ o2 m2 c2, tv = .slice (some ⟨b, o2, none⟩) m2 c2
  eq : k = app (fo tr2 (ks ++ [y])) r
  rd : RdF r
  len : ks.length = j
  kin : ∀ z ∈ ks ++ [y], z ∈ S3.dom
  wk : ∀ z ∈ ks ++ [y], (S3.node (S3.rep z)).kind = 31 → S3.wi (S3.rep z) = true
  xb : w5.heap[X]? = some (.cells (tmCells n kv none false 0) 136 (0, 0))
  xw : w.heap.size ≤ X
  row : w5.ownsRow w.heap.size 93 1 kv j (ks.map pv)
  xd : X ∉ S3.dom
  sep : ∀ z ∈ S3.dom, S3.rep z = z → ∀ g, S3.row z = some g → kv.ownBlock ≠ some g ∧ g < w5.heap.size
  gr : Gro w S tr S3 tr2
  fr : Frm (DBt S mb tb) w.heap.size w w5
  wz : wa S3 + (j + 1) + 2 * r.sz ≤ wa S + 2 * k.sz
  mm : m2 + r.sz ≤ m + k.sz
theorem row_lt (h : ST w.heap.size w S tr es sb mb m D1 nx mrk) {y : Nat} (hy : y ∈ S.dom) (hr : S.rep y = y) {g : Nat} (hg : S.row y = some g) : g < w.heap.size ∧ ∃ cur, w.heap[g]? = some (.cells cur 93 (0, 0)) := by
  obtain ⟨by_, kk⟩ := h.tw
  obtain ⟨_, kv, _, h3⟩ := kk.blk y hy
  have h4 := h3 ((kk.none_iff y).2 hr)
  have e := h4.r.trans hg
  exact ⟨h4.k.2 g e, h4.ty e⟩
theorem LR.kid (h : LR S tr es sb mb m tb s0 rb nx mrk tv n k rest w X wr j S1 tr1 m1 D1 tv1 ks (.cons a b r) kv) (hbw : ∀ b o m c, tv = .slice (some ⟨b, o, none⟩) m c → b < w.heap.size ∧ b ∉ S.dom ∧ b ≠ mb ∧ b ≠ tb) {w3 w4 : World} {S2 : SS} {tr2 : Nat → T} {y m2 : Nat} {D2 : DM} {tv2 : Value}
    (st : ST w3.heap.size w3 S2 tr2 es sb mb m2 D2 nx mrk) (hx : y ∈ S2.dom) (ht : tr2 y = (a, b)) (gr : Gro wr S1 tr1 S2 tr2)
    (htv : w3.heap[tb]? = some (.cells #[tv2] 22 (0, 0))) (hns : NodesAt w3 tv2 (r.flat ++ rest)) (hoff : ∀ b o m c, tv2 = .slice (some ⟨b, o, none⟩) m c → ∃ o2 m2 c2, tv1 = .slice (some ⟨b, o2, none⟩) m2 c2)
    (fr : Frm (DBt S1 mb tb) wr.heap.size wr w3) (hw : wa S2 + 1 ≤ wa S1 + 2 * szT (a, b)) (hn : m2 ≤ m1 + szT (a, b)) {e : Ending} (hR : RootP w3.heap.size S2 (S2.rep y) w3 e w4) :
    LK S tr es sb mb m tb s0 rb nx mrk tv n k rest w X j ks r kv y (w4.setCell ⟨S2.rep y, 6, none⟩ (.bool true)) { S2 with wi := upd S2.wi (S2.rep y) true } tr2 m2 D2 tv2 := by
  obtain ⟨_, tw4, f4⟩ := hR
  have hws : w.heap.size ≤ wr.heap.size := h.fr.size
  have hry : S2.rep y ∈ S2.dom := st.core.sol.rin y hx
  have hXl : X < wr.heap.size := (Array.getElem?_eq_some_iff.1 h.xb).1
  have Xd2 : X ∉ S2.dom := fun hd => by
    rcases gr.new X hd with e | e
    · exact h.xd e
    · omega
  have keep5 : ∀ g, g < w3.heap.size → g ∉ S2.dom → (w4.setCell ⟨S2.rep y, 6, none⟩ (.bool true)).heap[g]? = w3.heap[g]? := fun g hg hd => by
    rw [Below.heap_setCell _ _ _ _ (by show g ≠ S2.rep y; rintro rfl; exact hd hry)]
    exact f4.block g hg hd
  have sz5 : w3.heap.size ≤ (w4.setCell ⟨S2.rep y, 6, none⟩ (.bool true)).heap.size := by have := f4.size; simpa [World.setCell] using this
  have sz3 := fr.size
  have new2 : ∀ g, g < wr.heap.size → g ∉ S1.dom → g ∉ S2.dom := fun g hg hd hd2 => by
    rcases gr.new g hd2 with e | e
    · exact hd e
    · omega
  have keep : ∀ g, g < wr.heap.size → g ∉ S1.dom → g ≠ mb → g ≠ tb → (w4.setCell ⟨S2.rep y, 6, none⟩ (.bool true)).heap[g]? = wr.heap[g]? := fun g hg hd h1 h2 => by
    rw [keep5 g (by omega) (new2 g hg hd)]
    exact fr.block g hg (by rintro (e | e | e); exact hd e; exact h1 e; exact h2 e)
  obtain ⟨t1, t2, t3⟩ := h.st.ne22 h.rc.t (by decide) (by decide)
  obtain ⟨s1, s2, s3⟩ := h.st.ne22 h.rc.s (by decide) (by decide)
  obtain ⟨r1, r2, r3⟩ := h.st.ne22 h.rc.r (by decide) (by decide)
  have nst : s0 ≠ tb := by rintro rfl; have := h.rc.s; rw [h.rc.t] at this; simp at this
  have nrt : rb ≠ tb := by rintro rfl; have := h.rc.r; rw [h.rc.t] at this; simp at this
  have lt_of : ∀ {g : Nat} {o : Obj}, wr.heap[g]? = some o → g < wr.heap.size := fun hg => (Array.getElem?_eq_some_iff.1 hg).1
  have sb3 : sb ∉ S2.dom := fun hd => by
    obtain ⟨_, cs, hc⟩ := st.tw.blk hd
    rw [st.sbk] at hc; simp at hc
  have mb3 : mb ∉ S2.dom := fun hd => by
    obtain ⟨_, cs, hc⟩ := st.tw.blk hd
    exact map_ne st.map hc rfl
  have hml : mb < w3.heap.size := st.map.lt
  have hsl : sb < w3.heap.size := (Array.getElem?_eq_some_iff.1 st.sbk).1
  have st4 : ST w3.heap.size w4 S2 tr2 es sb mb m2 D2 nx mrk := by
    refine ⟨st.core, tw4, (f4.block sb hsl sb3).trans st.sbk, ?_, st.bnd, st.key, st.only, st.mle, st.pos, st.rng⟩
    obtain ⟨es', cl, hb, rr⟩ := st.map
    exact ⟨es', cl, (f4.block mb hml mb3).trans hb, rr⟩
  have hup : ∀ z, S2.wi z = true → upd S2.wi (S2.rep y) true z = true := fun z hz => by unfold upd; split <;> first | rfl | exact hz
  have st5 : ST w3.heap.size (w4.setCell ⟨S2.rep y, 6, none⟩ (.bool true)) { S2 with wi := upd S2.wi (S2.rep y) true } tr2 es sb mb m2 D2 nx mrk := by
    refine ⟨st4.core.tell _ hup, st4.tw.tell hry true _ (upd_same _ _ _) (fun z hz => upd_other _ _ hz), ?_, ?_, st4.bnd, st4.key, st4.only, st4.mle, st4.pos, st4.rng⟩
    · rw [Below.heap_setCell _ _ _ _ (by show sb ≠ S2.rep y; rintro rfl; exact sb3 hry)]; exact st4.sbk
    · obtain ⟨es', cl, hb, rr⟩ := st4.map
      exact ⟨es', cl, by rw [Below.heap_setCell _ _ _ _ (by show mb ≠ S2.rep y; rintro rfl; exact mb3 hry)]; exact hb, rr⟩
  have tb3 : tb ∉ S2.dom := new2 tb (lt_of h.rc.t) t1
  have offw : ∀ b o m c, tv2 = .slice (some ⟨b, o, none⟩) m c → ∃ o2 m2 c2, tv = .slice (some ⟨b, o2, none⟩) m2 c2 := fun b o m c e => by
    obtain ⟨o2, m2', c2, e2⟩ := hoff b o m c e
    exact h.off b o2 m2' c2 e2
  have rowg : ∀ g, kv.ownBlock = some g → w.heap.size ≤ g ∧ g < wr.heap.size := fun g hg => World.ownsRow.there h.row hg
  have rowd : ∀ g, kv.ownBlock = some g → g ∉ S1.dom ∧ g ≠ mb ∧ g ≠ tb := fun g hg => by
    obtain ⟨cur, hc⟩ := row_ty h.row hg
    obtain ⟨x1, x2, _⟩ := h.st.ne22 hc (by decide) (by decide)
    exact ⟨x1, x2, by rintro rfl; rw [h.rc.t] at hc; simp at hc⟩
  refine ⟨st5.raise sz5 (Nat.le_refl _), ⟨?_, ?_, ?_⟩, ?_, offw, ?_, h.rd.2, h.len, ?_, ?_, ?_, h.xw, World.ownsRow.keep h.row fun g hg => keep g (rowg g hg).2 (rowd g hg).1 (rowd g hg).2.1 (rowd g hg).2.2, Xd2, ?_, ?_, ?_, ?_, ?_⟩
  · rw [keep5 tb (by have := lt_of h.rc.t; omega) tb3]; exact htv
  · rw [keep s0 (lt_of h.rc.s) s1 s2 nst]; exact h.rc.s
  · rw [keep rb (lt_of h.rc.r) r1 r2 nrt]; exact h.rc.r
  · obtain ⟨g1, p, cap, e, g2, g3, g4⟩ := hns
    refine ⟨g1, p, cap, e, g2, g3, fun h0 => ?_⟩
    obtain ⟨b', off', rfl, gb, gc⟩ := g4 h0
    obtain ⟨o2, m2', c2, e2⟩ := offw b' off' _ cap e
    obtain ⟨q1, q2, q3, q4⟩ := hbw b' o2 m2' c2 e2
    refine ⟨b', off', rfl, Nat.lt_of_lt_of_le gb sz5, gc.kept (keep5 b' gb fun hd => ?_)⟩
    rcases gr.new b' hd with e3 | e3
    · rcases h.gr.new b' e3 with e4 | e4
      · exact q2 e4
      · omega
    · omega
  · have e1 : fo tr2 (ks ++ [y]) = app (fo tr1 ks) (.cons a b .nil) := by
      rw [fo_app]
      have : fo tr2 ks = fo tr1 ks := fo_congr' _ _ _ fun z hz => gr.tr z (h.kin z hz)
      rw [this]
      simp only [fo, ht]
    rw [e1, app_assoc]
    exact h.eq
  · intro z hz
    rcases List.mem_append.1 hz with hz | hz
    · exact gr.dom z (h.kin z hz)
    · rw [List.mem_singleton] at hz; rw [hz]; exact hx
  · intro z hz hv
    rcases List.mem_append.1 hz with hz | hz
    · have hrz : S1.rep z ∈ S1.dom := h.st.core.sol.rin z (h.kin z hz)
      change (S2.node (S2.rep z)).kind = 31 at hv
      change upd S2.wi (S2.rep y) true (S2.rep z) = true
      rw [gr.rep] at hv ⊢
      rw [gr.node _ hrz] at hv
      exact (by have := hup (S1.rep z) (gr.wi _ hrz (h.wk z hz hv)); rw [gr.rep] at this; exact this)
    · rw [List.mem_singleton] at hz
      rw [hz]
      exact upd_same _ _ _
  · rw [keep X hXl h.xd (map_ne h.st.map h.xb) (by rintro rfl; have := h.xb; rw [h.rc.t] at this; simp at this)]; exact h.xb
  · intro z hz hr g hg
    change z ∈ S2.dom at hz
    change S2.rep z = z at hr
    change S2.row z = some g at hg
    have hlt := (row_lt st hz hr hg).1
    refine ⟨?_, by omega⟩
    rcases gr.row z hz with ⟨z1, z2⟩ | z1
    · exact h.sep z z1 (by rw [← gr.rep]; exact hr) g (z2.symm.trans hg)
    · intro e
      have := z1 g hg
      have := (rowg g e).2
      omega
  · have g2 := h.gr.trans gr hws
    exact ⟨g2.dom, g2.new, g2.tr, g2.node, g2.rep, fun x hx e => hup x (g2.wi x hx e), g2.row⟩
  · have f45 : Frm S2.D w3.heap.size w3 (w4.setCell ⟨S2.rep y, 6, none⟩ (.bool true)) := f4.setCell (x := S2.rep y) (i := 6) hry _
    refine (h.fr.trans (fr.mono hws fun g hg hd => ?_)).trans (f45.mono (by omega) fun g hg hd => ?_)
    · rcases hd with hd | hd | hd
      · rcases h.gr.new g hd with e | e
        · exact .inl e
        · omega
      · exact .inr (.inl hd)
      · exact .inr (.inr hd)
    · rcases gr.new g hd with e | e
      · rcases h.gr.new g e with e | e
        · exact .inl e
        · omega
      · omega
  · have : szT (a, b) = 1 + b.sz := rfl
    have e2 : (F.cons a b r).sz = 1 + b.sz + r.sz := rfl
    have e3 : wa { S2 with wi := upd S2.wi (S2.rep y) true } = wa S2 := rfl
    have := h.wz
    omega
  · have : szT (a, b) = 1 + b.sz := rfl
    have e2 : (F.cons a b r).sz = 1 + b.sz + r.sz := rfl
    have := h.mm
    omega
end
end Go.Proofs.YtncifeeinogcnaaGreatDoor
