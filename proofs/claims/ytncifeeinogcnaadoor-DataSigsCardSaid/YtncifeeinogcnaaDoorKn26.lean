/- Texts of this seat, one behind the other: DaO. -/
import Derived.Test.YtncifeeinogcnaaDoorKn25
import Derived.BigRegion
import Derived.Deep.RegionWith
import Derived.Deep.RegionLaw
/- The types of all constructors. -/
set_option maxRecDepth 100000
namespace Go.Proofs.YtncifeeinogcnaaDoor
open Go.Shelf Go.RowKit Go.Lib Go.Sort Go.Maps Go.Proofs.TreeMath Go.Proofs.LexMath

/-- A constructor's name and type. -/
structure Sg where
  name : ByteArray
  v : Value
  ty : List Nd
  deriving Inhabited
def Sg.cells (s : Sg) : List Value := [.string s.name, s.v]
def SgsAt (w : World) (v : Value) (sl : List Sg) : Prop := SliceAt w 2 v sl.length (sl.flatMap Sg.cells) ∧ ∀ s ∈ sl, NodesAt w s.v s.ty
/-- The names and types. -/
def sigL (l : List (Dt × Ct)) : List (ByteArray × List Nd) := l.map fun x => (x.2.name, arrN x.2.args (declN x.1))
theorem infoSg : ∃ i, Tryd.prog.info? 52 = some i ∧ i.zero = some (.agg #[.string ⟨#[]⟩, .slice none 0 0]) ∧ i.size = 2 ∧ i.bytes = 40 := info_of' (by kernel_rfl)
/-- What the walk through the constructors holds. -/
structure RG (w : World) (q : Option Addr) (cq : Nat) (sl : List Sg) (done : List (Dt × Ct)) (W : World) : Prop where
  be : Below w.heap.size w W
  box : W.heap[w.heap.size]? = some (.cells #[.slice q sl.length cq] 48 (0, 0))
  row : W.ownsRow w.heap.size 52 2 (.slice q sl.length cq) sl.length (sl.flatMap Sg.cells)
  sgs : sl.map (fun s => (s.name, s.ty)) = sigL done
  pts : ∀ s ∈ sl, NodesAt W s.v s.ty ∧ Free s.v (.slice q sl.length cq) W ∧ s.v.ownBlock ≠ some w.heap.size
theorem RG.below {w W W' : World} {q : Option Addr} {cq : Nat} {sl : List Sg} {done : List (Dt × Ct)} (h : RG w q cq sl done W) (b : Below W.heap.size W W') : RG w q cq sl done W' :=
  ⟨h.be.trans (b.mono h.be.size), (b.block _ (Array.getElem?_eq_some_iff.1 h.box).1).trans h.box, World.ownsRow.keep h.row fun g hg => b.block g (World.ownsRow.there h.row hg).2, h.sgs, fun s hs => ⟨(h.pts s hs).1.below b, ⟨(h.pts s hs).2.1.1, fun g e => Nat.lt_of_lt_of_le ((h.pts s hs).2.1.2 g e) b.size⟩, (h.pts s hs).2.2⟩⟩
theorem RG.ne {w W : World} {q : Option Addr} {cq : Nat} {sl : List Sg} {done : List (Dt × Ct)} (h : RG w q cq sl done W) : some w.heap.size ≠ (Value.slice q sl.length cq).ownBlock := fun e => by
  obtain ⟨cur, hc⟩ := row_ty h.row e.symm
  rw [h.box] at hc; simp at hc
theorem cells2_len (sl : List Sg) : (sl.flatMap Sg.cells).length = sl.length * 2 := by
  induction sl with
  | nil => rfl
  | cons c cs ih => rw [List.flatMap_cons, List.length_append, ih]; simp [Sg.cells]; omega
theorem RG.push {w W w4 w5 : World} {q p' : Option Addr} {cq cap' : Nat} {sl : List Sg} {done : List (Dt × Ct)} {aq : Option Addr} {am ac : Nat} {d : Dt} {c : Ct} {T : TypeId} (h : RG w q cq sl done W) (b4 : Below W.heap.size W w4)
    (n4 : NodesAt w4 (.slice aq am ac) (arrN c.args (declN d))) (f4 : ∀ g, (Value.slice aq am ac).ownBlock = some g → W.heap.size ≤ g ∧ g < w4.heap.size)
    (g : (w4.alloc (.cells #[.string c.name, .slice aq am ac] T)).grownBy w5 (Value.slice q sl.length cq).ownBlock) (hbk : (Value.slice p' (sl.length + 1) cap').ownBlock = (Value.slice q sl.length cq).ownBlock ∨ (Value.slice p' (sl.length + 1) cap').ownBlock = some (w4.alloc (.cells #[.string c.name, .slice aq am ac] T)).heap.size)
    (hr : w5.ownsRow w.heap.size 52 2 (.slice p' (sl.length + 1) cap') (sl.length + 1) (sl.flatMap Sg.cells ++ [.string c.name, .slice aq am ac])) :
    RG w p' cap' (sl ++ [⟨c.name, .slice aq am ac, arrN c.args (declN d)⟩]) (done ++ [(d, c)]) (w5.setCell ⟨w.heap.size, 0, none⟩ (.slice p' (sl.length + 1) cap')) ∧ KeepDC W (w5.setCell ⟨w.heap.size, 0, none⟩ (.slice p' (sl.length + 1) cap')) := by
  have BK := box_keep (W := w4) (.cells #[.string c.name, .slice aq am ac] T)
  have hws : W.heap.size ≤ (w4.alloc (.cells #[.string c.name, .slice aq am ac] T)).heap.size := Nat.le_trans b4.size BK.size
  have h4 := (h.below b4).below BK
  have hb5 : w5.heap[w.heap.size]? = some (.cells #[.slice q sl.length cq] 48 (0, 0)) := (g.block _ (Array.getElem?_eq_some_iff.1 h4.box).1 h4.ne).trans h4.box
  have hlt : w.heap.size < w5.heap.size := (Array.getElem?_eq_some_iff.1 hb5).1
  have hbe : Below w.heap.size w (w5.setCell ⟨w.heap.size, 0, none⟩ (.slice p' (sl.length + 1) cap')) := Below.setCell (h4.be.grown g h4.be.size fun g e => (World.ownsRow.there h4.row e).1) (Nat.le_refl _) _
  have hne5 : some w.heap.size ≠ (Value.slice p' (sl.length + 1) cap').ownBlock := fun e => by
    obtain ⟨cur, hc⟩ := row_ty hr e.symm
    rw [hb5] at hc; simp at hc
  have keep : ∀ k o, k ≠ w.heap.size → w5.heap[k]? = some o → (w5.setCell ⟨w.heap.size, 0, none⟩ (.slice p' (sl.length + 1) cap')).heap[k]? = some o := fun k o hk ho => by rw [heap_setCell_other _ _ _ _ hk]; exact ho
  have gs : w5.grownBy (w5.setCell ⟨w.heap.size, 0, none⟩ (.slice p' (sl.length + 1) cap')) (some w.heap.size) := ⟨rfl, rfl, rfl, by simp, fun i _ hi => heap_setCell_other _ _ _ _ (fun e => hi (by rw [e]))⟩
  have el : (sl ++ [(⟨c.name, .slice aq am ac, arrN c.args (declN d)⟩ : Sg)]).length = sl.length + 1 := by rw [List.length_append, List.length_singleton]
  have step : ∀ v L, NodesAt (w4.alloc (.cells #[.string c.name, .slice aq am ac] T)) v L → Free v (.slice q sl.length cq) (w4.alloc (.cells #[.string c.name, .slice aq am ac] T)) → v.ownBlock ≠ some w.heap.size → NodesAt (w5.setCell ⟨w.heap.size, 0, none⟩ (.slice p' (sl.length + 1) cap')) v L ∧ Free v (.slice p' (sl.length + 1) cap') (w5.setCell ⟨w.heap.size, 0, none⟩ (.slice p' (sl.length + 1) cap')) ∧ v.ownBlock ≠ some w.heap.size := fun v L h1 h2 h3 => ⟨SliceAt.grown (SliceAt.grown h1 g h2.1) gs (.inr h3), h2.next (Nat.le_refl _) hbk (by rw [World.size_setCell]; exact g.size), h3⟩
  refine ⟨⟨hbe, ?_, ?_, ?_, ?_⟩, ?_, ?_⟩
  · rw [el, heap_setCell_same _ _ _ _ _ _ hb5]
    simp
  · rw [el, List.flatMap_append]
    exact World.ownsRow.keep hr fun g hg => heap_setCell_other _ _ _ _ (fun e => hne5 (by rw [hg, e]))
  · rw [List.map_append, h.sgs]
    simp [sigL]
  · intro s hs
    rw [el]
    rcases List.mem_append.1 hs with hs | hs
    · exact step _ _ ((h4.pts s hs).1) (h4.pts s hs).2.1 (h4.pts s hs).2.2
    · rw [List.mem_singleton] at hs
      subst hs
      refine step _ _ (n4.below BK) ⟨?_, fun g e => Nat.lt_of_lt_of_le (f4 g e).2 BK.size⟩ fun e => ?_
      · cases hq : (Value.slice aq am ac).ownBlock with
        | none => exact .inl rfl
        | some g =>
          refine .inr fun e => ?_
          have h1 := (f4 g hq).1
          have h2 := (World.ownsRow.there h.row e.symm).2
          omega
      · have h1 := (f4 _ e).1
        have h2 := (Array.getElem?_eq_some_iff.1 h.box).1
        omega
  · rw [World.size_setCell]
    exact Nat.le_trans hws g.size
  · intro k cs T' hk hT
    have hk4 := (BK.block k (Nat.lt_of_lt_of_le (Array.getElem?_eq_some_iff.1 hk).1 b4.size)).trans ((b4.block k (Array.getElem?_eq_some_iff.1 hk).1).trans hk)
    have n1 : some k ≠ (Value.slice q sl.length cq).ownBlock := fun e => by
      obtain ⟨cur, hc⟩ := row_ty h.row e.symm
      rw [hk] at hc
      rcases hT with rfl | rfl <;> simp at hc
    have n2 : k ≠ w.heap.size := by
      rintro rfl
      have := h.box
      rw [hk] at this
      rcases hT with rfl | rfl <;> simp at this
    exact keep k _ n2 ((g.block k (Array.getElem?_eq_some_iff.1 hk4).1 n1).trans hk4)
theorem box_keep' {w W : World} (_h : w.heap.size ≤ W.heap.size) (o : Obj) : Below w.heap.size W (W.alloc o) := (box_keep o).mono _h
theorem drew_first {w w' : World} (h : Below w.drew.heap.size w.drew w') : Below w.heap.size w w' := ((Below.refl _ _).drew).trans h
set_option maxHeartbeats 4000000 in
theorem sigs1_any (w : World) (d : Dt) (c : Ct) (q : Option Addr) (cq : Nat) (sl : List Sg) (done : List (Dt × Ct)) (W : World) (hd : ∃ q k, d.cv = .slice q d.cons.length k) (hl : ListsAt W c.av c.args) (h0 : 0 ≤ d.params) (h8 : d.params ≤ 1000) (hs : c.args.flatten.length ≤ 900000) (hs2 : c.args.length ≤ 4000) (hk : sl.length ≤ 100000) (h : RG w q cq sl done W) :
    Calls Tryd.prog 32 #[d.val, c.val, .pointer (some ⟨w.heap.size, 0, none⟩)] W fun e W' => e = .returned (.bool false) ∧ (∃ q cq sl, RG w q cq sl (done ++ [(d, c)]) W') ∧ KeepDC W W' := by
  obtain ⟨i0, hi, hz0, hz1, hz2⟩ := infoSg
  have HI := Lib.hid (And.intro hi (And.intro hz0 (And.intro hz1 hz2)))
  clear hi hz0 hz1 hz2
  have DC := Lib.hid (fun W' => declared_any d W' h0 h8 hd)
  have hlen : (arrN c.args (declN d)).length ≤ 1000000 := by
    have h1 : ∀ Ls : List (List Nd), (arrL Ls).length = Ls.length + Ls.flatten.length := fun Ls => by
      unfold arrL
      induction Ls with
      | nil => rfl
      | cons L Ls ih => rw [List.flatMap_cons, List.length_append, ih, List.flatten_cons, List.length_append, List.length_cons, List.length_cons]; omega
    have h2 : (declN d).length = 1 + d.params.toNat := by unfold declN makeN; rw [List.length_cons, prmL_flat]; omega
    unfold arrN
    rw [List.length_append, h1, h2]
    omega
  have AR := Lib.hid (fun (W' : World) (v3 : Value) (hW : Below W.heap.size W W') (h3 : NodesAt W' v3 (declN d)) => arrow_any c.av v3 c.args (declN d) W' (hl.below hW) h3 hlen)
  obtain ⟨lq, lc, ecv⟩ := hd
  obtain ⟨aq, ac, eav⟩ := hl.form
  have VALD : d.val = .agg #[.string d.name, .int .i64 d.params, .slice lq d.cons.length lc] := by unfold Dt.val; rw [ecv]
  have VALC : c.val = .agg #[.string c.name, .slice aq c.args.length ac] := by unfold Ct.val; rw [eav]
  rw [VALD] at DC
  rw [VALD, VALC]
  rw [eav] at AR
  obtain ⟨wB, hwB⟩ : ∃ wB, wB = (W.alloc (.cells #[.string d.name, .int .i64 d.params, .slice lq d.cons.length lc] 30)).alloc (.cells #[.string c.name, .slice aq c.args.length ac] 33) := ⟨_, rfl⟩
  have BB : Below W.heap.size W wB := by rw [hwB]; exact ((Below.refl _ _).alloc (Nat.le_refl _) _).alloc (by simp) _
  have Y1 : wB.heap[W.heap.size]? = some (Obj.cells #[.string d.name, .int .i64 d.params, .slice lq d.cons.length lc] 30 (0, 0)) := by
    rw [hwB]; exact (((Below.refl _ _).alloc (Nat.le_refl _) _).block _ (by simp)).trans (heap_alloc_new _ _)
  have Y2 : wB.heap[W.heap.size + 1]? = some (Obj.cells #[.string c.name, .slice aq c.args.length ac] 33 (0, 0)) := by
    have := heap_alloc_new (W.alloc (.cells #[.string d.name, .int .i64 d.params, .slice lq d.cons.length lc] 30)) (.cells #[.string c.name, .slice aq c.args.length ac] 33)
    rw [hwB]
    simpa using this
  have HB := Lib.hid h
  have YY := Lib.hid (And.intro Y1 Y2)
  have B0 := Lib.hid BB
  have SS : Hid (∀ X, Below wB.heap.size wB X → X.cell? ⟨W.heap.size, 0, none⟩ = some (.string d.name) ∧ X.cell? ⟨W.heap.size, 1, none⟩ = some (.int .i64 d.params) ∧ X.cell? ⟨W.heap.size, 2, none⟩ = some (.slice lq d.cons.length lc) ∧ X.cell? ⟨W.heap.size + 1, 0, none⟩ = some (.string c.name) ∧ X.cell? ⟨W.heap.size + 1, 1, none⟩ = some (.slice aq c.args.length ac) ∧ X.cell? ⟨w.heap.size, 0, none⟩ = some (.slice q sl.length cq) ∧ w.heap.size < X.heap.size) := Lib.hid fun X hX => by
    have z1 := (hX.block _ (Array.getElem?_eq_some_iff.1 YY.out.1).1).trans YY.out.1
    have z2 := (hX.block _ (Array.getElem?_eq_some_iff.1 YY.out.2).1).trans YY.out.2
    have z3 := (HB.out.below (B0.out.trans (hX.mono B0.out.size))).box
    exact ⟨Lib.cell_of_heap z1 0, Lib.cell_of_heap z1 1, Lib.cell_of_heap z1 2, Lib.cell_of_heap z2 0, Lib.cell_of_heap z2 1, Lib.cell_of_heap z3 0, (Array.getElem?_eq_some_iff.1 z3).1⟩
  obtain ⟨m1, hm1⟩ : ∃ m1, m1 = d.cons.length := ⟨_, rfl⟩
  obtain ⟨m2, hm2⟩ : ∃ m2, m2 = c.args.length := ⟨_, rfl⟩
  obtain ⟨n, hn⟩ : ∃ n, n = sl.length := ⟨_, rfl⟩
  obtain ⟨dn, hdn⟩ : ∃ dn, dn = d.name := ⟨_, rfl⟩
  obtain ⟨cn, hcn⟩ : ∃ cn, cn = c.name := ⟨_, rfl⟩
  obtain ⟨dp, hdp⟩ : ∃ dp, dp = d.params := ⟨_, rfl⟩
  have FIN : Hid (∀ W4 w5 fq fm fc p' cap', Below wB.heap.size wB W4 → NodesAt W4 (.slice fq fm fc) (arrN c.args (declN d)) → (∀ g, (Value.slice fq fm fc).ownBlock = some g → W.heap.size ≤ g ∧ g < W4.heap.size) → (W4.alloc (.cells #[.string cn, .slice fq fm fc] 52)).grownBy w5 (Value.slice q n cq).ownBlock → ((Value.slice p' (n + 1) cap').ownBlock = (Value.slice q n cq).ownBlock ∨ (Value.slice p' (n + 1) cap').ownBlock = some (W4.alloc (.cells #[.string cn, .slice fq fm fc] 52)).heap.size) → w5.ownsRow w.heap.size 52 2 (.slice p' (n + 1) cap') (n + 1) (sl.flatMap Sg.cells ++ [.string cn, .slice fq fm fc]) → (∃ q cq sl, RG w q cq sl (done ++ [(d, c)]) (w5.setCell ⟨w.heap.size, 0, none⟩ (.slice p' (n + 1) cap'))) ∧ KeepDC W (w5.setCell ⟨w.heap.size, 0, none⟩ (.slice p' (n + 1) cap'))) := Lib.hid fun W4 w5 fq fm fc p' cap' h4 n4 f4 g hbk hr => by
    subst hcn hn
    obtain ⟨r1, r2⟩ := HB.out.push (d := d) (c := c) (B0.out.trans (h4.mono B0.out.size)) n4 f4 g hbk hr
    exact ⟨⟨_, _, _, r1⟩, r2⟩
  have HK : Hid (n + 1 ≤ maxLen ∧ (n + 1) * 40 ≤ 140737488355328 ∧ (sl.flatMap Sg.cells).length = n * 2) := Lib.hid (by rw [hn]; exact ⟨by unfold maxLen; omega, by omega, cells2_len sl⟩)
  have RO : Hid (∀ X, Below wB.heap.size wB X → X.ownsRow w.heap.size 52 2 (.slice q n cq) n (sl.flatMap Sg.cells) ∧ w.heap.size ≤ X.heap.size) := Lib.hid fun X hX => by
    have := HB.out.below (B0.out.trans (hX.mono B0.out.size))
    rw [hn]
    exact ⟨this.row, this.be.size⟩
  have FZ : Hid (∀ X w5, Below wB.heap.size wB X → X.grownBy w5 (Value.slice q n cq).ownBlock → w5.frozen? ⟨w.heap.size, 0, none⟩ = false) := Lib.hid fun X w5 hX hg => by
    have h9 := HB.out.below (B0.out.trans (hX.mono B0.out.size))
    have := (hg.block _ (Array.getElem?_eq_some_iff.1 h9.box).1 (by rw [hn]; exact h9.ne)).trans h9.box
    exact Lib.frozen_of_heap this 0
  have FC : Hid (∀ X w5, Below wB.heap.size wB X → X.grownBy w5 (Value.slice q n cq).ownBlock → w5.cell? ⟨w.heap.size, 0, none⟩ = some (.slice q n cq)) := Lib.hid fun X w5 hX hg => by
    have h9 := HB.out.below (B0.out.trans (hX.mono B0.out.size))
    have := (hg.block _ (Array.getElem?_eq_some_iff.1 h9.box).1 (by rw [hn]; exact h9.ne)).trans h9.box
    rw [hn]
    exact Lib.cell_of_heap this 0
  rw [← hm1, ← hdn, ← hdp] at DC
  rw [← hm2] at AR
  rw [← hm1, ← hm2, ← hn, ← hdn, ← hcn, ← hdp] at SS
  rw [← hm1, ← hm2, ← hdn, ← hcn, ← hdp] at hwB ⊢
  have HW := Lib.hid hwB
  have WB := Lib.hid B0.out.size
  have POST : Hid (∀ W', (∃ q cq sl, RG w q cq sl (done ++ [(d, c)]) W') ∧ KeepDC W W' → (fun e W' => e = Ending.returned (.bool false) ∧ (∃ q cq sl, RG w q cq sl (done ++ [(d, c)]) W') ∧ KeepDC W W') (.returned (.bool false)) W') := Lib.hid fun W' h => ⟨rfl, h.1, h.2⟩
  generalize (fun e W' => e = Ending.returned (.bool false) ∧ (∃ q cq sl, RG w q cq sl (done ++ [(d, c)]) W') ∧ KeepDC W W') = Z at POST ⊢
  have FIN2 := Lib.hid (fun W4 w5 fq fm fc p' cap' a1 a2 a3 a4 a5 a6 => POST.out _ (FIN.out W4 w5 fq fm fc p' cap' a1 a2 a3 a4 a5 a6))
  clear hwB BB Y1 Y2 VALD VALC ecv eav hm1 hm2 hn hdn hcn hdp hl hk hs hs2 h0 h8 h hlen POST FIN
  obtain ⟨x0, x1, x2, x3, x4, x5, x6⟩ := SS.out _ (Below.refl _ _)
  go_enter Tryd.func32, Tryd.ntmps32
  go_wp2
  rw [← HW.out]
  go_region_law ((first
    | (refine step_append_any (by rfl) _ _ 48 (by rfl) w.heap.size 52 i0 (.agg #[.string ⟨#[]⟩, .slice none 0 0]) 2 40 Tryd.underlying48 HI.out.1 HI.out.2.1 HI.out.2.2.1 HI.out.2.2.2 rfl (by decide) (.slice q n cq) n (sl.flatMap Sg.cells) rfl (RO.out _ (B4.out.trans (box_keep' B4.out.size _))).1 (some ⟨w4.heap.size, 0, none⟩) 1 1 [.string cn, .slice fq4 (arrN c.args (declN d)).length fc4] rfl rfl (fun _ => ⟨_, rfl, CellsIn.at (lit_at w4 _ _)⟩) (by intro u hu; simp at hu; rcases hu with rfl | rfl <;> rfl) HK.out.1 HK.out.2.1 (RO.out _ (B4.out.trans (box_keep' B4.out.size _))).2 ?_; intro p' cap' w5 hown hgrow hblk; have RN := Lib.hid hown; have GN := Lib.hid hgrow; have HBK := Lib.hid hblk; have f5 := FZ.out _ _ (B4.out.trans (box_keep' B4.out.size _)) hgrow; have v5 := FC.out _ _ (B4.out.trans (box_keep' B4.out.size _)) hgrow; clear hown hgrow hblk)
    | (go_simp; go_at_call 33; refine (DC.out _).mono ?_; rintro e w3 ⟨v3, rfl, n3, b3⟩; obtain ⟨fq3, fc3, rfl⟩ := nodes_form' n3; have N3 := Lib.hid n3; have B3 := Lib.hid (drew_first b3); obtain ⟨y0, y1, y2, y3, y4, y5, y6⟩ := SS.out w3 B3.out; clear n3 b3)
    | (go_simp; go_at_call 16; refine (AR.out _ _ (by exact B0.out.trans (B3.out.mono B0.out.size)) N3.out).mono ?_; rintro e w4 ⟨v4, rfl, n4, b4⟩; obtain ⟨fq4, fc4, rfl⟩ := nodes_form' (SliceAt.of_owns n4 : NodesAt w4 v4 _); have N4 := Lib.hid (SliceAt.of_owns n4 : NodesAt w4 _ (arrN c.args (declN d))); have F4 := Lib.hid (fun g hg => (⟨Nat.le_trans (Nat.le_trans B0.out.size B3.out.size) (World.ownsRow.there (g := g) n4 hg).1, (World.ownsRow.there n4 hg).2⟩ : W.heap.size ≤ g ∧ g < w4.heap.size)); have B4 := Lib.hid (B3.out.trans (b4.mono B3.out.size)); obtain ⟨u0, u1, u2, u3, u4, u5, u6⟩ := SS.out w4 B4.out; clear n4 b4)
    | fail))
  all_goals go_wp2
  all_goals (first | go_ret | skip)
  all_goals exact FIN2.out w4 w5 _ _ _ _ _ B4.out N4.out (fun g hg => F4.out g hg) GN.out HBK.out RN.out
end Go.Proofs.YtncifeeinogcnaaDoor
