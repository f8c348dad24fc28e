/- Texts of this seat, one behind the other: TyW, TyX, TyY, TyO. -/
import Derived.Test.YtncifeeinogcnaaGreatDoorKn11
import Derived.Laws.EntriesVeiled
import Derived.Test.YtncifeeinogcnaaGreatDoorKn09
/- term's closure: a kid is appended; all kids are read. -/
set_option maxRecDepth 100000
namespace Go.Proofs.YtncifeeinogcnaaGreatDoor
open Go.RowKit Go.Lib Go.Maps Go.Proofs.TreeMath

section
variable {S : SS} {tr : Nat → T} {es : List (T × T)} {sb mb m tb s0 rb : Nat} {nx mrk : Int} {tv : Value} {n : Nd} {k : F} {rest : List Nd} {w : World} {X : Nat} {j : Nat} {tr2 : Nat → T} {m2 : Nat} {D2 : DM} {tv2 : Value} {ks : List Nat} {kv : Value} {r : F} {y : Nat} {w5 : World} {S3 : SS}
theorem LK.step (h : LK S tr es sb mb m tb s0 rb nx mrk tv n k rest w X j ks r kv y w5 S3 tr2 m2 D2 tv2) (hbw : ∀ b o m c, tv = .slice (some ⟨b, o, none⟩) m c → b < w.heap.size) {w6 w7 : World} (b6 : Below w5.heap.size w5 w6) (g7 : w6.grownBy w7 kv.ownBlock) {kv2 : Value}
    (hrow : w7.ownsRow w.heap.size 93 1 kv2 (j + 1) (ks.map pv ++ [pv y])) (hblk : kv2.ownBlock = kv.ownBlock ∨ kv2.ownBlock = some w6.heap.size) :
    LR S tr es sb mb m tb s0 rb nx mrk tv n k rest w X (w7.setCell ⟨X, 4, none⟩ kv2) (j + 1) S3 tr2 m2 D2 tv2 (ks ++ [y]) r kv2 := by
  have hXl : X < w5.heap.size := (Array.getElem?_eq_some_iff.1 h.xb).1
  have hsz : w5.heap.size ≤ (w7.setCell ⟨X, 4, none⟩ kv2).heap.size := by have := b6.size; have := g7.size; simp [World.setCell]; omega
  have keep : ∀ g, g < w5.heap.size → g ≠ X → kv.ownBlock ≠ some g → (w7.setCell ⟨X, 4, none⟩ kv2).heap[g]? = w5.heap[g]? := fun g hg h1 h2 => by
    rw [Below.heap_setCell _ _ _ _ h1, g7.block g (by have := b6.size; omega) (fun e => h2 e.symm), b6.block g hg]
  have other : ∀ {g : Nat} {cs : Array Value} {T0 : TypeId}, w5.heap[g]? = some (.cells cs T0 (0, 0)) → T0 ≠ 93 → T0 ≠ 136 → (w7.setCell ⟨X, 4, none⟩ kv2).heap[g]? = w5.heap[g]? := fun {g cs T0} hg h79 h101 => by
    refine keep g (Array.getElem?_eq_some_iff.1 hg).1 ?_ fun e => ?_
    · rintro rfl
      rw [h.xb] at hg
      simp only [Option.some.injEq, Obj.cells.injEq] at hg
      exact h101 hg.2.1.symm
    · obtain ⟨cur, hc⟩ := row_ty h.row e
      rw [hc] at hg
      simp only [Option.some.injEq, Obj.cells.injEq] at hg
      exact h79 hg.2.1.symm
  have nrow : ∀ g, kv.ownBlock = some g → w.heap.size ≤ g ∧ g < w5.heap.size ∧ ∃ cur, w5.heap[g]? = some (.cells cur 93 (0, 0)) := fun g hg => ⟨(World.ownsRow.there h.row hg).1, (World.ownsRow.there h.row hg).2, row_ty h.row hg⟩
  have st8 : ST w5.heap.size (w7.setCell ⟨X, 4, none⟩ kv2) S3 tr2 es sb mb m2 D2 nx mrk := by
    refine h.st.other hsz fun g hg hc => ?_
    rcases hc with hd | rfl | rfl | ⟨x, hx, hr, hg2⟩
    · refine keep g hg (by rintro rfl; exact h.xd hd) fun e => ?_
      obtain ⟨_, _, cur, hc⟩ := nrow g e
      obtain ⟨_, cs, hc2⟩ := h.st.tw.blk hd
      rw [hc] at hc2; simp at hc2
    · exact other h.st.sbk (by decide) (by decide)
    · refine keep g hg (by rintro rfl; exact map_ne h.st.map h.xb rfl) fun e => ?_
      obtain ⟨_, _, cur, hc⟩ := nrow g e
      exact map_ne h.st.map hc rfl
    · have := h.sep x hx hr g hg2
      refine keep g hg ?_ this.1
      rintro rfl
      obtain ⟨_, cur, hc⟩ := row_lt h.st hx hr hg2
      rw [h.xb] at hc; simp at hc
  refine ⟨st8.raise hsz (Nat.le_refl _), ⟨(other h.rc.t (by decide) (by decide)).trans h.rc.t, (other h.rc.s (by decide) (by decide)).trans h.rc.s, (other h.rc.r (by decide) (by decide)).trans h.rc.r⟩, ?_, h.off, h.eq, h.rd, by rw [List.length_append, List.length_singleton, h.len], h.kin, h.wk, ?_, h.xw, ?_, h.xd, fun z hz hr g hg => ?_, h.gr, ?_, h.wz, h.mm⟩
  · obtain ⟨g1, p, cap, e, g2, g3, g4⟩ := h.ns
    refine ⟨g1, p, cap, e, g2, g3, fun h0 => ?_⟩
    obtain ⟨b', off', rfl, gb, gc⟩ := g4 h0
    obtain ⟨o2, m2', c2, e2⟩ := h.off b' off' _ cap e
    have hb := hbw b' o2 m2' c2 e2
    exact ⟨b', off', rfl, Nat.lt_of_lt_of_le gb hsz, gc.kept (keep b' gb (by have := h.xw; omega) fun e3 => by have := (nrow b' e3).1; omega)⟩
  · have hX7 : w7.heap[X]? = some (.cells (tmCells n kv none false 0) 136 (0, 0)) := by
      rw [g7.block X (by have := b6.size; omega) ?_, b6.block X hXl]
      · exact h.xb
      · intro e
        obtain ⟨_, _, cur, hc⟩ := nrow X e.symm
        rw [h.xb] at hc; simp at hc
    rw [set_blk hX7]
    rfl
  · have e : (ks ++ [y]).map pv = ks.map pv ++ [pv y] := by simp
    rw [e]
    refine World.ownsRow.keep hrow fun g hg => Below.heap_setCell _ _ _ _ ?_
    show g ≠ X
    rintro rfl
    obtain ⟨cur, hc⟩ := row_ty hrow hg
    rcases hblk with e2 | e2
    · obtain ⟨_, _, cur2, hc2⟩ := nrow g (e2.symm.trans hg)
      rw [h.xb] at hc2; simp at hc2
    · rw [hg] at e2
      simp only [Option.some.injEq] at e2
      have := b6.size
      omega
  · have h2 := h.sep z hz hr g hg
    intro e
    rcases hblk with e2 | e2
    · exact h2.1 (e2.symm.trans e)
    · rw [e] at e2
      simp only [Option.some.injEq] at e2
      have := b6.size
      omega
  · refine h.fr.trans (Frm.of_below ?_)
    have hw5 := h.fr.size
    exact (((b6.mono hw5).grown g7 (by have := b6.size; omega) fun g e => (nrow g e).1).setCell h.xw _)
/-- All kids are read: the term is one of the store's. -/
theorem LR.end {S1 : SS} {tr1 : Nat → T} {m1 : Nat} {D1 : DM} {tv1 : Value} {f2 : F} {wr : World} (h : LR S tr es sb mb m tb s0 rb nx mrk tv n k rest w X wr j S1 tr1 m1 D1 tv1 ks f2 kv) (hk : n.kind = 32) (hn : n.kids = (j : Int)) (hj : j = k.cnt) :
    RdP S tr es sb mb m tb nx mrk tv (n, k) rest w (.returned (.pointer (some ⟨X, 0, none⟩))) wr := by
  have hf : f2 = .nil := by
    have := congrArg F.cnt h.eq
    rw [cnt_app, fo_cnt, h.len] at this
    cases f2 with
    | nil => rfl
    | cons a b r => simp only [F.cnt] at this; omega
  subst hf
  have heq : k = fo tr1 ks := by rw [h.eq, app_nil]
  have hXl : X < wr.heap.size := (Array.getElem?_eq_some_iff.1 h.xb).1
  have ne : ∀ {z}, z ∈ S1.dom → z ≠ X := fun hz e => h.xd (e ▸ hz)
  have hln : n.kids = (ks.length : Int) := by rw [h.len]; exact hn
  have hc := h.st.core.add h.xd n ks kv.ownBlock h.kin (.inr ⟨hk, hln⟩) h.wk
  rw [← heq] at hc
  have hst : ST wr.heap.size wr (S1.add X n ks kv.ownBlock) (upd tr1 X (n, k)) es sb mb m1 D1 nx mrk := by
    refine ⟨hc, h.st.tw.add h.xd hXl n ks kv.ownBlock h.kin kv h.xb ⟨⟨World.ownsRow.base (by rw [h.len]; exact h.row) (Nat.zero_le _), fun g hg => (World.ownsRow.there h.row hg).2⟩, rfl⟩ (h.st.core.sol.rout X h.xd), h.st.sbk, h.st.map, h.st.bnd, fun x hx hv => ?_, fun v hv => ?_, fun x hx => ?_, h.st.pos, fun x hx hv => ?_⟩
    · rcases List.mem_cons.1 hx with rfl | hx'
      · simp only [SS.add, upd_same] at hv; rw [hk] at hv; exact absurd hv (by decide)
      · simp only [SS.add, upd_other _ _ (ne hx')] at hv ⊢; exact h.st.key x hx' hv
    · obtain ⟨x, hx, e⟩ := h.st.only v hv
      exact ⟨x, List.mem_cons_of_mem _ hx, by simp only [SS.add, upd_other _ _ (ne hx)]; exact e⟩
    · rcases List.mem_cons.1 hx with rfl | hx'
      · simp only [SS.add, upd_same]; exact h.st.pos
      · simp only [SS.add, upd_other _ _ (ne hx')]; exact h.st.mle x hx'
    · rcases List.mem_cons.1 hx with rfl | hx'
      · simp only [SS.add, upd_same] at hv; rw [hk] at hv; exact absurd hv (by decide)
      · simp only [SS.add, upd_other _ _ (ne hx')] at hv ⊢; exact h.st.rng x hx' hv
  refine .mk _ _ X m1 D1 tv1 rfl hst List.mem_cons_self (upd_same _ _ _) ?_ h.rc.t (by have := h.ns; simpa [F.flat] using this) h.off h.fr ?_ ?_
  · have g2 := gro_add w S1 tr1 h.xw h.xd n ks kv.ownBlock (fun g hg => (World.ownsRow.there h.row hg).1) (n, k)
    exact h.gr.trans g2 (Nat.le_refl _)
  · rw [wa_add _ h.xd, h.len]
    have := h.wz
    have e : szT (n, k) = 1 + k.sz := rfl
    simp only [F.sz] at this
    omega
  · have := h.mm
    have e : szT (n, k) = 1 + k.sz := rfl
    simp only [F.sz] at this
    omega
end
end Go.Proofs.YtncifeeinogcnaaGreatDoor
/- The contract of term's closure: the walk; of term. -/
set_option maxRecDepth 100000
namespace Go.Proofs.YtncifeeinogcnaaGreatDoor
open Go.RowKit Go.Lib Go.Maps Go.Proofs.TreeMath

set_option maxHeartbeats 4000000 in
theorem rd_con (n : Nd) (k : F) (hk : n.kind = 32) (hkc : n.kids = (k.cnt : Int)) (ih : RdF k) : Rd n k := by
  intro S tr es sb mb m tb s0 rb D nx mrk tv rest w h hr hns ho hwa hm
  obtain ⟨b, off, c, rfl, hb, hnc, hcm, n0, n1, n2, n3⟩ := nodes_cons hns
  obtain ⟨l, hl⟩ : ∃ l, l = (k.flat ++ rest).length := ⟨_, rfl⟩
  rw [← hl] at hns hr ho ⊢
  rw [← hl] at hnc
  obtain ⟨o2, hcut, hn2⟩ := cut_one hns
  obtain ⟨ob1, ob2, ob3⟩ := ho b off (l + 1) c rfl
  obtain ⟨nk, nt, nn, nc⟩ := n
  simp only at hk hkc n0 n1 n2 n3
  subst hk
  have TK := Lib.hid (took h hr hn2 ob3 (.cells #[.int .i64 32, .string nt, .int .i64 nn, .int .i64 nc] 58))
  have c0 := cell_of_heap hr.t 0
  have r0 := cell_of_heap hr.r 0
  have f0 := frozen_of_heap hr.t 0
  simp only [List.getElem?_toArray, List.getElem?_cons_zero] at c0 r0
  have htl : tb < w.heap.size := (Array.getElem?_eq_some_iff.1 hr.t).1
  have ba : Below w.heap.size w (w.alloc (.cells #[.int .i64 32, .string nt, .int .i64 nn, .int .i64 nc] 58)) := (Below.refl _ _).alloc (Nat.le_refl _) _
  have c0a := (ba.cell (p := ⟨tb, 0, none⟩) htl).trans c0
  have f0a := (ba.frozen (p := ⟨tb, 0, none⟩) htl).trans f0
  have hcm9 : c ≤ 9223372036854775807 := by unfold maxLen at hcm; omega
  have hnc2 : 1 ≤ c := by omega
  obtain ⟨w1, hw1⟩ : ∃ w1, w1 = (w.setCell ⟨tb, 0, none⟩ (.slice (some ⟨b, o2, none⟩) l (c - 1))).alloc (.cells #[.int .i64 32, .string nt, .int .i64 nn, .int .i64 nc] 58) := ⟨_, rfl⟩
  have TK2 : Hid (Took S tr es sb mb m tb s0 rb D nx mrk b o2 l (c - 1) (k.flat ++ rest) w w1) := by rw [hw1, ← World.setCell_alloc_past _ _ _ _ htl]; exact TK.out
  have hz1 : w1.heap.size = w.heap.size + 1 := by rw [hw1]; simp [World.setCell]
  have hq : w1.heap[w.heap.size]? = some (.cells #[.int .i64 32, .string nt, .int .i64 nn, .int .i64 nc] 58 (0, 0)) := by
    rw [hw1, ← World.setCell_alloc_past _ _ _ _ htl, Below.heap_setCell _ _ _ _ (by show w.heap.size ≠ tb; omega)]
    exact alloc_top _ _
  have b2 : Below w1.heap.size w1 (w1.alloc (.cells #[.int .i64 32, .string nt, .int .i64 nn, .int .i64 nc, .slice none 0 0, .pointer none, .bool false, .int .i64 0] 136)) := (Below.refl _ _).alloc (Nat.le_refl _) _
  have q3' := (b2.cell (p := ⟨w.heap.size, 3, none⟩) (by show w.heap.size < _; omega)).trans (cell_of_heap hq 3)
  have q0 := cell_of_heap hq 0
  have q1 := cell_of_heap hq 1
  have q2 := cell_of_heap hq 2
  have q3 := cell_of_heap hq 3
  have hml : mb < w.heap.size := h.map.lt
  have L0 : Hid (∀ w2, w2 = w1.alloc (.cells #[.int .i64 32, .string nt, .int .i64 nn, .int .i64 nc, .slice none 0 0, .pointer none, .bool false, .int .i64 0] 136) → LRx S tr es sb mb m tb s0 rb nx mrk (.slice (some ⟨b, off, none⟩) (l + 1) c) ⟨32, nt, nn, nc⟩ k rest w (w.heap.size + 1) w2 0) := Lib.hid fun w2 hw2 => by
    have T2 := TK2.out
    have st2 := (T2.st.frm (w' := w2) (by rw [hw2]; exact b2)).raise (C := w2.heap.size) (by rw [hw2]; exact b2.size) (Nat.le_refl _)
    have bk : ∀ g, g < w1.heap.size → w2.heap[g]? = w1.heap[g]? := fun g hg => by rw [hw2]; exact b2.block g hg
    have lt_of : ∀ {g : Nat} {o : Obj}, w1.heap[g]? = some o → g < w1.heap.size := fun hg => (Array.getElem?_eq_some_iff.1 hg).1
    refine ⟨S, tr, m, D, .slice (some ⟨b, o2, none⟩) l (c - 1), [], k, .slice none 0 0, st2, ⟨(bk _ (lt_of T2.rc.t)).trans T2.rc.t, (bk _ (lt_of T2.rc.s)).trans T2.rc.s, (bk _ (lt_of T2.rc.r)).trans T2.rc.r⟩, T2.ns.below (by rw [hw2]; exact b2), fun b' o' m' c' e => ?_, rfl, ih, rfl, by simp, by simp, ?_, by omega, World.ownsRow_nil _ _ _ _, fun hd => ?_, fun y hy hr g hg => by simp [Value.ownBlock], Gro.refl _ _ _, T2.fr.trans (Frm.of_below (by rw [hw2]; exact b2.mono T2.sz)), by omega, by omega⟩
    · simp only [Value.slice.injEq, Option.some.injEq, Addr.mk.injEq, and_true] at e
      obtain ⟨⟨rfl, rfl⟩, rfl, rfl⟩ := e
      exact ⟨off, _, _, rfl⟩
    · rw [hw2, ← hz1]; exact alloc_top _ _
    · have := (h.tw.blk hd).1
      omega
  have HL := Lib.hid hl
  have HKC := Lib.hid hkc
  have OB : Hid (∀ b' o' m' c', Value.slice (some ⟨b, off, none⟩) (l + 1) c = .slice (some ⟨b', o', none⟩) m' c' → b' < w.heap.size ∧ b' ∉ S.dom ∧ b' ≠ mb ∧ b' ≠ tb) := Lib.hid fun b' o' m' c' e => by
    simp only [Value.slice.injEq, Option.some.injEq, Addr.mk.injEq, and_true] at e
    obtain ⟨⟨rfl, rfl⟩, rfl, rfl⟩ := e
    exact ⟨hb, ob1, ob2, ob3⟩
  have HW := Lib.hid hw1
  have HTL := Lib.hid htl
  have HML := Lib.hid hml
  have HWA := Lib.hid (And.intro hwa hm)
  have HZ1 := Lib.hid hz1
  have HNC9 : Hid (nc ≤ 9223372036854775807 ∧ 0 ≤ nc ∧ k.cnt ≤ 100000000) := Lib.hid (by have := F.cnt_le k; omega)
  obtain ⟨cn, hcn⟩ : ∃ cn : Nat, cn = k.cnt := ⟨_, rfl⟩
  rw [← hcn] at HKC HNC9
  have HCN := Lib.hid hcn
  obtain rfl : nc = (cn : Int) := HKC.out
  have hcn9 : cn ≤ 100000000 := HNC9.out.2.2
  rw [hw1] at q0 q1 q2 q3 q3'
  clear h hr hns ho hn2 TK f0 hl hq ba hw1 ob1 ob2 ob3 TK2 b2 hz1 hkc hwa hm hb hml hcn ih r0
  unfold pv
  go_enter Tryz.func115, Tryz.ntmps115
  go_wp2
  rw [← HW.out]
  clear htl q0 q1 q2 q3 q3' c0a f0a c0 n0 n1 n2 n3 hcut
  obtain ⟨w2, hw2⟩ : ∃ w2, w2 = w1.alloc (.cells #[.int .i64 32, .string nt, .int .i64 nn, .int .i64 (cn : Int), .slice none 0 0, .pointer none, .bool false, .int .i64 0] 136) := ⟨_, rfl⟩
  have L1 := L0.out w2 hw2
  rw [← hw2]
  clear hw2 L0 HW
  go_loopw [23] (fun i wr => ∃ j : Nat, j ≤ cn ∧ i = .int .i64 j ∧ Hid (LRx S tr es sb mb m tb s0 rb nx mrk (.slice (some ⟨b, off, none⟩) (l + 1) c) ⟨32, nt, nn, (cn : Int)⟩ k rest w (w.heap.size + 1) wr j)) (fun i _ => cn - (intOf i).toNat)
  case atStart => exact ⟨0, Nat.zero_le _, rfl, L1⟩
  case round =>
    clear L1
    obtain ⟨j, hj, rfl, hL⟩ := hrel
    obtain ⟨S1, tr1, m1, D1, tv1, ks, f2, kv, h⟩ := hL.out
    by_cases hlt : j < cn
    · cases f2 with
      | nil =>
        exfalso
        have := congrArg F.cnt h.eq
        rw [cnt_app, fo_cnt, h.len, ← HCN.out] at this
        simp only [F.cnt] at this
        omega
      | cons a fb r =>
        have r0 := cell_of_heap h.rc.r 0
        simp only [List.getElem?_toArray, List.getElem?_cons_zero] at r0
        have hrd := h.rd.1
        have hns : NodesAt wr tv1 (a :: (fb.flat ++ (r.flat ++ rest))) := by
          have := h.ns
          simpa [F.flat, List.append_assoc] using this
        have CALL := Lib.hid (hrd S1 tr1 es sb mb m1 tb s0 rb D1 nx mrk tv1 (r.flat ++ rest) wr h.st h.rc hns (fun b' o' m' c' e => by
          obtain ⟨o2', m2', c2', e2⟩ := h.off b' o' m' c' e
          obtain ⟨q1, q2, q3, q4⟩ := OB.out b' o2' m2' c2' e2
          refine ⟨fun hd => ?_, q3, q4⟩
          rcases h.gr.new b' hd with e3 | e3
          · exact q2 e3
          · omega) (by have h1 := h.wz; have h2 := HWA.out.1; simp only [F.sz] at h1; omega) (by have h1 := h.mm; have h2 := HWA.out.2; simp only [F.sz] at h1; omega))
        have H := Lib.hid h
        unfold pv at CALL r0
        clear h hrd hns hL
        go_wp2_with fail
        refine Calls.mono CALL.out ?_
        rintro e w3 ⟨S2, tr2, y, m2, D2, tv2, rfl, st, hx, ht, gr, htv, hns, hoff, fr, hw, hn⟩
        have ROOT := Lib.hid (root_any w3.heap.size S2 y w3 hx st.tw)
        have KID := Lib.hid (fun w4 (e : Ending) (hR : RootP w3.heap.size S2 (S2.rep y) w3 e w4) => LR.kid H.out OB.out st hx ht gr htv hns hoff fr hw hn hR)
        have NC := Lib.hid (fun w4 (hT : TW w3.heap.size w4 S2) => node_cells hT (x := S2.rep y) (st.core.sol.rin y hx))
        clear st hx ht gr htv hns hoff fr hw hn CALL r0
        unfold pv at ROOT ⊢
        go_wp2_with fail
        refine Calls.mono ROOT.out ?_
        rintro e w4 hR
        have K := Lib.hid (KID.out w4 e hR)
        obtain ⟨rfl, hT, _⟩ := hR
        obtain ⟨_, _, _, _, c6, _, fz⟩ := NC.out w4 hT
        have f6 := fz 6
        have hx4 := cell_of_heap K.out.xb 4
        have fx4 := frozen_of_heap K.out.xb 4
        simp only [tmCells, List.getElem?_toArray, List.getElem?_cons_succ, List.getElem?_cons_zero] at hx4
        obtain ⟨q, cq, rfl⟩ := row_form K.out.row
        obtain ⟨rr, hrr⟩ : ∃ rr, rr = S2.rep y := ⟨_, rfl⟩
        rw [← hrr] at c6 f6 hx4 fx4 K
        have HRR := Lib.hid hrr
        clear hT fz NC KID ROOT
        unfold pv
        rw [← hrr]
        clear hrr
        have hX5 : w.heap.size + 1 < (w4.setCell ⟨rr, 6, none⟩ (.bool true)).heap.size := (Array.getElem?_eq_some_iff.1 K.out.xb).1
        have NXR := Lib.hid (show some (w.heap.size + 1) ≠ (Value.slice q j cq).ownBlock from fun e => by
          obtain ⟨cur, hc⟩ := row_ty K.out.row e.symm
          rw [K.out.xb] at hc; simp at hc)
        have AL : Below (w4.setCell ⟨rr, 6, none⟩ (.bool true)).heap.size (w4.setCell ⟨rr, 6, none⟩ (.bool true)) ((w4.setCell ⟨rr, 6, none⟩ (.bool true)).alloc (.cells #[.pointer (some ⟨y, 0, none⟩)] 93)) := (Below.refl _ _).alloc (Nat.le_refl _) _
        have C1 := Lib.hid ((AL.cell (p := ⟨w.heap.size + 1, 4, none⟩) hX5).trans hx4)
        have F1 := Lib.hid ((AL.frozen (p := ⟨w.heap.size + 1, 4, none⟩) hX5).trans fx4)
        have ROW := Lib.hid (K.out.row.alloc (.cells #[.pointer (some ⟨y, 0, none⟩)] 93))
        have ALH := Lib.hid AL
        have HX5 := Lib.hid hX5
        obtain ⟨j0, j1, j2, j3, j4⟩ := info79
        have HJ := Lib.hid (And.intro j1 (And.intro j2 (And.intro j3 j4)))
        have HMX := Lib.hid (show j + 1 ≤ maxLen ∧ (j + 1) * 8 ≤ 140737488355328 ∧ w.heap.size ≤ ((w4.setCell ⟨rr, 6, none⟩ (.bool true)).alloc (.cells #[.pointer (some ⟨y, 0, none⟩)] 93)).heap.size from ⟨by unfold maxLen; omega, by omega, Nat.le_trans (by omega) AL.size⟩)
        have CN : Hid (∀ (j : Nat) u, [Value.pointer (some ⟨y, 0, none⟩)][j]? = some u → ((w4.setCell ⟨rr, 6, none⟩ (.bool true)).alloc (.cells #[.pointer (some ⟨y, 0, none⟩)] 93)).cell? ((⟨w4.heap.size, 0, none⟩ : Addr).add j) = some u) := by
          have := cell_one_new (w4.setCell ⟨rr, 6, none⟩ (.bool true)) (.pointer (some ⟨y, 0, none⟩)) 93
          rw [show (w4.setCell ⟨rr, 6, none⟩ (.bool true)).heap.size = w4.heap.size by simp [World.setCell]] at this
          exact this
        clear AL hX5 j1 j2 j3 j4 fx4 H
        go_wp2_with (at_builtin; refine wpList_append_any _ rfl _ _ 126 rfl w.heap.size 93 j0 (.pointer none) 1 8 Tryz.underlying126 HJ.out.1 HJ.out.2.1 HJ.out.2.2.1 HJ.out.2.2.2 rfl (by decide) (.slice q j cq) j (ks.map pv) rfl ROW.out (some ⟨w4.heap.size, 0, none⟩) 1 1 [.pointer (some ⟨y, 0, none⟩)] rfl rfl (fun _ => ⟨_, rfl, CN.out⟩) (by intro u hu; simp at hu; rw [hu]; rfl) HMX.out.1 HMX.out.2.1 HMX.out.2.2 ?_; intro p' cap' w7 hown hgrow hblk; have RN := Lib.hid hown; have GRN := Lib.hid hgrow; have BLK := Lib.hid hblk; have c7 := hgrow.cell C1.out NXR.out; have f7 := (World.frozen?_of_block (w := (w4.setCell ⟨rr, 6, none⟩ (.bool true)).alloc (.cells #[.pointer (some ⟨y, 0, none⟩)] 93)) (w' := w7) (a := ⟨w.heap.size + 1, 4, none⟩) (hgrow.block (w.heap.size + 1) (Nat.lt_of_lt_of_le HX5.out ALH.out.size) NXR.out)).trans F1.out; clear hown hgrow hblk)
        go_roundw
        case rel =>
          have LL := K.out.step (fun b' o' m' c' e => (OB.out b' o' m' c' e).1) ALH.out GRN.out RN.out BLK.out
          exact ⟨j + 1, by omega, by go_num, Lib.hid ⟨_, _, _, _, _, _, _, _, LL⟩⟩
        case measure => simp [intOf]; omega
    · obtain rfl : j = cn := by omega
      have E : Hid (RdP S tr es sb mb m tb nx mrk (.slice (some ⟨b, off, none⟩) (l + 1) c) (⟨32, nt, nn, (j : Int)⟩, k) rest w (.returned (.pointer (some ⟨w.heap.size + 1, 0, none⟩))) wr) := h.end rfl rfl HCN.out
      clear h hL hlt
      go_wp2
      go_ret
      exact E.out
theorem rd_all (f : F) : okF f → RdF f := by
  induction f with
  | nil => intro _; trivial
  | cons n k r ihk ihr =>
    rintro ⟨h1, h2, h3⟩
    refine ⟨?_, ihr h3⟩
    rcases h1 with ⟨_, a2, a3, rfl⟩ | ⟨a1, a2⟩
    · rw [a2]; exact rd_var _ a3
    · exact rd_con n k a1 a2 (ihk h2)
end Go.Proofs.YtncifeeinogcnaaGreatDoor
/- The contract of term. -/
set_option maxRecDepth 100000
namespace Go.Proofs.YtncifeeinogcnaaGreatDoor
open Go.RowKit Go.Lib Go.Maps Go.Proofs.TreeMath

inductive TmP (S : SS) (tr : Nat → T) (es : List (T × T)) (sb mb n : Nat) (nx mrk : Int) (t : T) (w : World) (e : Ending) (w' : World) : Prop
  | mk (S' : SS) (tr' : Nat → T) (x n' : Nat) (D' : DM) (he : e = .returned (pv x)) (st : ST w'.heap.size w' S' tr' es sb mb n' D' nx mrk) (hx : x ∈ S'.dom) (ht : tr' x = t) (gr : Gro w S tr S' tr') (fr : Frm (DB S mb) w.heap.size w w') (hw : wa S' + 1 ≤ wa S + 2 * szT t) (hn : n' ≤ n + szT t)
theorem term_any (S : SS) (tr : Nat → T) (es : List (T × T)) (sb mb m : Nat) (D : DM) (nx mrk : Int) (tv : Value) (n : Nd) (k : F) (w : World) (h : ST w.heap.size w S tr es sb mb m D nx mrk) (hns : NodesAt w tv (n :: k.flat)) (hok : okF (.cons n k .nil)) (hoff : ∀ b o m c, tv = .slice (some ⟨b, o, none⟩) m c → b ∉ S.dom ∧ b ≠ mb)
    (hwa : wa S + 2 * (1 + k.sz) ≤ 100000000) (hm : m + 1 + k.sz ≤ 100000000) : Calls Tryz.prog 80 #[pv sb, tv] w (TmP S tr es sb mb m nx mrk (n, k) w) := by
  obtain ⟨b, off, c, rfl, hb, hnc, hcm, _⟩ := nodes_cons hns
  obtain ⟨l, hl⟩ : ∃ l, l = k.flat.length + 1 := ⟨_, rfl⟩
  rw [← hl] at hns hoff ⊢
  have RD := (rd_all _ hok).1
  obtain ⟨wq, hwq⟩ : ∃ wq, wq = ((w.alloc (.cells #[.pointer (some ⟨sb, 0, none⟩)] 61)).alloc (.cells #[.slice (some ⟨b, off, none⟩) l c] 22)).alloc (.cells #[.func (.func 115) #[] #[.pointer (some ⟨w.heap.size + 1, 0, none⟩), .pointer (some ⟨w.heap.size, 0, none⟩), .pointer (some ⟨w.heap.size + 1 + 1, 0, none⟩)]] 96) := ⟨_, rfl⟩
  have bq : Below w.heap.size w wq := by rw [hwq]; exact below3 w _ _ _
  have hz : wq.heap.size = w.heap.size + 1 + 1 + 1 := by rw [hwq]; simp
  have stq := (h.frm bq).raise (C := wq.heap.size) bq.size (Nat.le_refl _)
  have rc : RC wq (w.heap.size + 1) w.heap.size (w.heap.size + 1 + 1) sb (.slice (some ⟨b, off, none⟩) l c) := by
    refine ⟨?_, ?_, ?_⟩
    · rw [hwq, Below.heap_alloc _ _ _ (by simp)]
      have := alloc_top (w.alloc (.cells #[.pointer (some ⟨sb, 0, none⟩)] 61)) (.cells #[.slice (some ⟨b, off, none⟩) l c] 22)
      rw [show (w.alloc (.cells #[.pointer (some ⟨sb, 0, none⟩)] 61)).heap.size = w.heap.size + 1 by simp] at this
      exact this
    · rw [hwq, Below.heap_alloc _ _ _ (by simp; omega), Below.heap_alloc _ _ _ (by simp)]
      exact alloc_top w _
    · rw [hwq]
      have := alloc_top ((w.alloc (.cells #[.pointer (some ⟨sb, 0, none⟩)] 61)).alloc (.cells #[.slice (some ⟨b, off, none⟩) l c] 22)) (.cells #[.func (.func 115) #[] #[.pointer (some ⟨w.heap.size + 1, 0, none⟩), .pointer (some ⟨w.heap.size, 0, none⟩), .pointer (some ⟨w.heap.size + 1 + 1, 0, none⟩)]] 96)
      rw [show ((w.alloc (.cells #[.pointer (some ⟨sb, 0, none⟩)] 61)).alloc (.cells #[.slice (some ⟨b, off, none⟩) l c] 22)).heap.size = w.heap.size + 1 + 1 by simp] at this
      exact this
  have CALL := RD S tr es sb mb m (w.heap.size + 1) w.heap.size (w.heap.size + 1 + 1) D nx mrk (.slice (some ⟨b, off, none⟩) l c) [] wq stq rc (by rw [List.append_nil]; exact hns.below bq) (fun b' o' m' c' e => by
    have hb' : b' < w.heap.size := by
      simp only [Value.slice.injEq, Option.some.injEq, Addr.mk.injEq, and_true] at e
      obtain ⟨⟨rfl, _⟩, _⟩ := e
      exact hb
    obtain ⟨q1, q2⟩ := hoff b' o' m' c' e
    exact ⟨q1, q2, by omega⟩) hwa hm
  have POST : Hid (∀ e w', RdP S tr es sb mb m (w.heap.size + 1) nx mrk (.slice (some ⟨b, off, none⟩) l c) (n, k) [] wq e w' → ∃ x, e = .returned (.pointer (some ⟨x, 0, none⟩)) ∧ Hid (TmP S tr es sb mb m nx mrk (n, k) w (.returned (.pointer (some ⟨x, 0, none⟩))) w')) := Lib.hid fun e w' hr => by
    obtain ⟨S', tr', x, n', D', tv', rfl, st, hx, ht, gr, _, _, _, fr, hw, hn⟩ := hr
    refine ⟨x, rfl, .mk S' tr' x n' D' rfl st hx ht ⟨gr.dom, fun y hy => (gr.new y hy).imp id fun e => Nat.le_trans bq.size e, gr.tr, gr.node, gr.rep, gr.wi, fun y hy => (gr.row y hy).imp id fun e g hg => Nat.le_trans bq.size (e g hg)⟩ ((Frm.of_below bq).trans (fr.mono bq.size fun j hj hd => ?_)) hw hn⟩
    rcases hd with hd | hd | hd
    · exact .inl hd
    · exact .inr hd
    · omega
  have CALL := Lib.hid CALL
  have HW := Lib.hid hwq
  unfold pv at CALL
  clear h hns hok hoff RD bq hz stq rc hwq hb hnc hcm hl hwa hm
  unfold pv
  go_enter Tryz.func80, Tryz.ntmps80
  go_wp2_with fail
  rw [← HW.out]
  refine Calls.mono CALL.out ?_
  rintro e w' hr
  obtain ⟨x, rfl, E⟩ := POST.out e w' hr
  clear hr POST CALL
  go_wp2
  go_ret
  exact E.out
end Go.Proofs.YtncifeeinogcnaaGreatDoor
/- What circular holds. -/
set_option maxRecDepth 100000
namespace Go.Proofs.YtncifeeinogcnaaGreatDoor
open Go.RowKit Go.Lib Go.Proofs.TreeMath

/-- Terms on the way, the last one first. -/
def PathAt (C : Nat) (w : World) (v : Value) (P : List Nat) : Prop := w.ownsRow C 93 1 v P.length (P.reverse.map pv)
def DS (S : SS) (sb : Nat) (k : Nat) : Prop := k ∈ S.dom ∨ k = sb
structure CR (B C sb : Nat) (S : SS) (nx : Value) (mv : Value) (mrk : Int) (w wr : World) (v : Value) (P : List Nat) (mk : Nat → Int) : Prop where
  tw : TW B wr { S with mr := mk }
  path : PathAt C wr v P
  st : wr.heap[sb]? = some (.cells #[nx, mv, .int .i64 mrk] 95 (0, 0))
  fr : Frm (DS S sb) w.heap.size w wr
  le : C ≤ wr.heap.size
theorem TW.mark {B : Nat} {w : World} {S : SS} (h : TW B w S) {x : Nat} (hx : x ∈ S.dom) (v : Int) : TW B (w.setCell ⟨x, 7, none⟩ (.int .i64 v)) { S with mr := setM S.mr x v } := by
  obtain ⟨by_, k⟩ := h
  exact ⟨by_, k.put hx _ _ rfl rfl rfl rfl k.lead k.bin (fun u hu => ⟨rfl, rfl, setM_other _ _ hu⟩) (fun kv _ h3 => ⟨kv, by simp [tmCells, setM_same], h3⟩)⟩
section
variable {B C sb : Nat} {S : SS} {nx mv : Value} {mrk : Int} {w wr : World} {v : Value} {P : List Nat} {mk : Nat → Int}
theorem TW.ne_sb (h : TW B wr S) (hs : wr.heap[sb]? = some (.cells #[nx, mv, .int .i64 mrk] 95 (0, 0))) {x : Nat} (hx : x ∈ S.dom) : x ≠ sb := by
  rintro rfl
  obtain ⟨_, cs, h2⟩ := h.blk hx
  rw [hs] at h2; simp at h2
/-- A term is marked. -/
theorem CR.mark (h : CR B C sb S nx mv mrk w wr v P mk) (hBC : B ≤ C) {x : Nat} (hx : x ∈ S.dom) (b : Int) : CR B C sb S nx mv mrk w (wr.setCell ⟨x, 7, none⟩ (.int .i64 b)) v P (setM mk x b) := by
  have hxB := (h.tw.blk (x := x) hx).1
  refine ⟨h.tw.mark (x := x) hx b, World.ownsRow.keep h.path fun g hg => Below.heap_setCell _ _ _ _ ?_, ?_, h.fr.setCell (x := x) (i := 7) (.inl hx) _, by have := h.le; simpa [World.setCell] using this⟩
  · have := (World.ownsRow.there h.path hg).1
    show g ≠ x
    omega
  · rw [Below.heap_setCell _ _ _ _ (h.tw.ne_sb h.st (x := x) hx).symm]; exact h.st
/-- What stands for a term is looked for. -/
theorem CR.root (h : CR B C sb S nx mv mrk w wr v P mk) (hBC : B ≤ C) {r : Nat} {e : Ending} {w' : World} (k : RootP B { S with mr := mk } r wr e w') : CR B C sb S nx mv mrk w w' v P mk := by
  obtain ⟨_, k2, k3⟩ := k
  have hk : ∀ g, g < wr.heap.size → g ∉ S.dom → w'.heap[g]? = wr.heap[g]? := fun g hg hn => k3.block g hg hn
  refine ⟨k2, World.ownsRow.keep h.path fun g hg => hk g (World.ownsRow.there h.path hg).2 fun hd => ?_, (hk sb ?_ fun hd => h.tw.ne_sb h.st (x := sb) hd rfl).trans h.st, h.fr.trans (k3.mono h.fr.size fun j _ hd => .inl hd), Nat.le_trans h.le k3.size⟩
  · have := (World.ownsRow.there h.path hg).1
    have := (h.tw.blk (x := g) hd).1
    omega
  · exact (Array.getElem?_eq_some_iff.1 h.st).1
/-- One more is on the way. -/
theorem CR.more (h : CR B C sb S nx mv mrk w wr v P mk) (hBC : B ≤ C) (hwC : w.heap.size ≤ C) {w1 w2 : World} (b1 : Below wr.heap.size wr w1) (g : w1.grownBy w2 v.ownBlock) {nv : Value} {y : Nat} (hn : w2.ownsRow C 93 1 nv (P.length + 1) (P.reverse.map pv ++ [pv y])) :
    CR B C sb S nx mv mrk w w2 nv (y :: P) mk := by
  have b2 : Below C wr w2 := (b1.mono h.le).grown g (Nat.le_trans h.le b1.size) fun k e => (World.ownsRow.there h.path e).1
  have hsl : sb < wr.heap.size := (Array.getElem?_eq_some_iff.1 h.st).1
  refine ⟨h.tw.below (b2.mono hBC), ?_, ?_, h.fr.trans (Frm.of_below (b2.mono hwC)), Nat.le_trans h.le b2.size⟩
  · unfold PathAt
    have e : (y :: P).reverse.map pv = P.reverse.map pv ++ [pv y] := by simp
    rw [e]; exact hn
  · have ns : some sb ≠ v.ownBlock := fun e => by
      obtain ⟨cur, hc⟩ := row_ty h.path e.symm
      rw [h.st] at hc; simp at hc
    exact (g.block sb (Nat.lt_of_lt_of_le hsl b1.size) ns).trans ((b1.block sb hsl).trans h.st)
/-- The last one on the way. -/
theorem CR.last {x : Nat} (h : CR B C sb S nx mv mrk w wr v (x :: P) mk) : ∃ g c, v = .slice (some ⟨g, 0, none⟩) (P.length + 1) c ∧ g < wr.heap.size ∧ C ≤ g ∧ P.length + 1 ≤ c ∧ c ≤ maxLen ∧ wr.cell? ⟨g, P.length, none⟩ = some (.pointer (some ⟨x, 0, none⟩)) ∧
    ∀ w' mk', CR B C sb S nx mv mrk w w' v (x :: P) mk' → CR B C sb S nx mv mrk w w' (.slice (some ⟨g, 0, none⟩) P.length c) P mk' := by
  have hp := h.path
  obtain ⟨hl, hp2⟩ := hp
  rcases hp2 with ⟨_, e⟩ | ⟨g, cap, cur, rfl, hCg, hg, hn, hm, hs, ht⟩
  · simp at e
  · have hgl : g < wr.heap.size := (Array.getElem?_eq_some_iff.1 hg).1
    refine ⟨g, cap, rfl, hgl, hCg, hn, hm, ?_, fun w' mk' h' => ⟨h'.tw, ?_, h'.st, h'.fr, h'.le⟩⟩
    · rw [cell_of_heap hg]
      have : (((x :: P).reverse.map pv))[P.length]? = some (pv x) := by simp
      rw [← ht] at this
      have := take_get this
      simpa [pv] using this
    · obtain ⟨hl2, h2⟩ := h'.path
      rcases h2 with ⟨e, _⟩ | ⟨g', cap', cur', e, hCg', hg', hn', hm', hs', ht'⟩
      · simp at e
      · simp only [Value.slice.injEq, Option.some.injEq, Addr.mk.injEq, and_true, true_and] at e
        obtain ⟨rfl, rfl⟩ := e
        refine ⟨by simp, .inr ⟨g, cap, cur', rfl, hCg', hg', by simp at hn'; omega, hm', hs', ?_⟩⟩
        have e2 : (x :: P).reverse.map pv = P.reverse.map pv ++ [pv x] := by simp
        rw [e2] at ht'
        have : cur'.toList.take (P.length * 1) = (cur'.toList.take ((x :: P).length * 1)).take (P.length * 1) := by rw [List.take_take, Nat.min_eq_left (by simp)]
        rw [this, ht', List.take_append_of_le_length (by simp), List.take_of_length_le (by simp)]
end
/-- How much is yet to be looked at. -/
def mC (G : Gr) (dom : List Nat) (mk : Nat → Int) (b : Int) (P : List Nat) : Nat := wt G dom (fun x => decide (mk x < b)) + P.length
theorem mC_pop (G : Gr) (dom : List Nat) (mk : Nat → Int) (b : Int) (P : List Nat) (x : Nat) (hx : b ≤ mk x) : mC G dom (setM mk x (b + 1)) b P + 1 ≤ mC G dom mk b (x :: P) := by
  have := wt_le G dom (fun x => decide (mk x < b)) (fun y => decide (setM mk x (b + 1) y < b)) (fun y hy => by
    have hy := of_decide_eq_true hy
    by_cases e : y = x
    · subst e; rw [setM_same] at hy; omega
    · rw [setM_other _ _ e] at hy; exact decide_eq_true hy)
  unfold mC
  simp only [List.length_cons]
  omega
theorem mC_push (G : Gr) (dom : List Nat) (mk : Nat → Int) (b : Int) (P : List Nat) (x : Nat) (hd : x ∈ dom) (hx : mk x < b) (Q : List Nat) (hQ : Q.length = (G.kids x).length) : mC G dom (setM mk x b) b (Q ++ x :: P) + 1 ≤ mC G dom mk b (x :: P) := by
  have := wt_lt G dom (fun x => decide (mk x < b)) (fun y => decide (setM mk x b y < b)) (fun y hy => by
    have hy := of_decide_eq_true hy
    by_cases e : y = x
    · subst e; rw [setM_same] at hy; omega
    · rw [setM_other _ _ e] at hy; exact decide_eq_true hy) x hd (decide_eq_true hx) (by rw [setM_same]; simp)
  unfold mC
  rw [List.length_append, hQ]
  omega
end Go.Proofs.YtncifeeinogcnaaGreatDoor
