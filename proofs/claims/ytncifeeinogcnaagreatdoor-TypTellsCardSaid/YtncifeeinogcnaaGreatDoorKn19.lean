/- Texts of this seat, one behind the other: ReD, New. -/
import Derived.Test.YtncifeeinogcnaaGreatDoorKn18
import Derived.Test.YtncifeeinogcnaaGreatDoorKn05
/- The contract of Resolve. -/
set_option maxRecDepth 100000
namespace Go.Proofs.YtncifeeinogcnaaGreatDoor
open Go.RowKit Go.Lib Go.Maps Go.Proofs.TreeMath

theorem ST.frmD {B : Nat} {w w' : World} {S : SS} {tr : Nat → T} {es : List (T × T)} {sb mb n : Nat} {D : DM} {nx mrk : Int} (h : ST B w S tr es sb mb n D nx mrk) (f : Frm S.D B w w') (tw : TW B w' S) : ST B w' S tr es sb mb n D nx mrk := by
  have hs : sb ∉ S.dom := fun hd => by
    obtain ⟨_, cs, hc⟩ := h.tw.blk hd
    rw [h.sbk] at hc; simp at hc
  have hm : mb ∉ S.dom := fun hd => by
    obtain ⟨_, cs, hc⟩ := h.tw.blk hd
    exact map_ne h.map hc rfl
  refine ⟨h.core, tw, (f.block sb h.bnd.1 hs).trans h.sbk, ?_, h.bnd, h.key, h.only, h.mle, h.pos, h.rng⟩
  obtain ⟨es', cl, hb, r⟩ := h.map
  exact ⟨es', cl, (f.block mb h.bnd.2 hm).trans hb, r⟩
theorem right_num {n : Nd} (h : rightN n = true) : (0 ≤ n.num ∧ n.num ≤ 1048576) ∧ (n.kind = 31 → n = vN n.num) ∧ (n.kind ≠ 31 → n.kind = 32) := by
  unfold rightN at h
  split at h
  · rename_i e
    simp only [Bool.and_eq_true, decide_eq_true_eq, beq_iff_eq] at h
    obtain ⟨⟨⟨a, b⟩, c⟩, d⟩ := h
    refine ⟨⟨a, b⟩, fun _ => ?_, fun h => absurd e h⟩
    obtain ⟨kd, tx, nm, kc⟩ := n
    simp only at e c d
    rw [e, c, empty_text d]
    rfl
  · split at h
    · rename_i e1 e2
      simp only [Bool.and_eq_true, beq_iff_eq] at h
      exact ⟨by omega, fun e => absurd e e1, fun _ => e2⟩
    · exact absurd h (by decide)
theorem rs1_met {G : Gr} (hG : G.Ok) (rep : Nat → Nat) {x : Nat} (hx : G.ids x) {n : Nd} (hn : G.node x = n) (hk : n.kind = 31) : rs1 (sg G rep) n = flatT (exT G rep x) := by
  unfold rs1
  rw [if_pos hk, ← hn, sg_met hG rep hx (by rw [hn]; exact hk)]
theorem rs1_not {G : Gr} (rep : Nat → Nat) {n : Nd} (hv : n.kind = 31 → n = vN n.num) (h : n.kind = 31 → ¬ ∃ x, G.ids x ∧ G.node x = vN n.num) : rs1 (sg G rep) n = [n] := by
  unfold rs1
  split
  · rename_i hk
    rw [sg_not rep (h hk)]
    have := hv hk
    rw [show flatT (vT n.num) = [vN n.num] from rfl, ← this]
  · rfl
theorem below_two (w : World) (a b : Obj) : Below w.heap.size w ((w.alloc a).alloc b) := ((Below.refl _ w).alloc (Nat.le_refl _) a).alloc (by simp) b
set_option maxHeartbeats 4000000 in
theorem resolve_any (S : SS) (tr : Nat → T) (es : List (T × T)) (sb mb m : Nat) (D : DM) (nx mrk : Int) (tv : Value) (t : List Nd) (w : World) (h : ST w.heap.size w S tr es sb mb m D nx mrk) (hns : NodesAt w tv t) (hl : t.length ≤ 1000000) (sm : SmallN t)
    (off : ∀ b o m c, tv = .slice (some ⟨b, o, none⟩) m c → b ∉ S.dom) : Calls Tryz.prog 42 #[pv sb, tv] w (RvP S (sg (S.gr tr) S.rep) t w) := by
  have CK := Lib.hid (check_any tv t w hns hl sm)
  unfold CkP at CK
  cases hty : tyB t with
  | false =>
    have E : Hid (∀ w', Below w.heap.size w w' → RvP S (sg (S.gr tr) S.rep) t w (.returned (.tuple #[.slice none 0 0, .int .i64 90])) w') := Lib.hid fun w' b => .form hty rfl b
    rw [hty] at CK
    clear h hns hl sm off hty
    unfold pv
    go_enter Tryz.func42, Tryz.ntmps42
    go_wp2_with fail
    refine CK.out.mono ?_
    rintro e w1 ⟨rfl, b1⟩
    have B1 := Lib.hid b1
    clear b1 CK
    go_wp2
    go_ret2
    exact E.out _ B1.out
  | true =>
    rw [hty] at CK
    have hty2 := hty
    unfold tyB at hty2
    simp only [Bool.and_eq_true, decide_eq_true_eq] at hty2
    have l4 : t.length ≤ 4000 := hty2.1.1
    have RT := Lib.hid hty2.2
    obtain ⟨q, c, rfl⟩ : ∃ q c, tv = .slice q t.length c := by obtain ⟨_, q, c, e, _⟩ := hns; exact ⟨q, c, e⟩
    obtain ⟨C, hC⟩ : ∃ C, C = w.heap.size := ⟨_, rfl⟩
    have START : Hid (∀ w1, Below w.heap.size w w1 → WR C C w1.heap.size (w1.heap.size + 1) S [] ((w1.alloc (.cells #[.slice none 0 0] 22)).alloc (.cells #[.func (.func 82) #[] #[.pointer (some ⟨w1.heap.size, 0, none⟩), .pointer (some ⟨w1.heap.size + 1, 0, none⟩)]] 134)) ∧ Frm S.D C w ((w1.alloc (.cells #[.slice none 0 0] 22)).alloc (.cells #[.func (.func 82) #[] #[.pointer (some ⟨w1.heap.size, 0, none⟩), .pointer (some ⟨w1.heap.size + 1, 0, none⟩)]] 134))) := Lib.hid fun w1 b1 => by
      have hz := b1.size
      have b2 := b1.trans ((below_two w1 (.cells #[.slice none 0 0] 22) (.cells #[.func (.func 82) #[] #[.pointer (some ⟨w1.heap.size, 0, none⟩), .pointer (some ⟨w1.heap.size + 1, 0, none⟩)]] 134)).mono hz)
      refine ⟨⟨?_, Nat.le_refl _, ⟨.slice none 0 0, ?_, World.ownsRow_nil _ _ _ _⟩, ?_, ⟨by omega, by omega, by simp; omega⟩⟩, ?_⟩
      · rw [hC]; exact h.tw.below b2
      · rw [Below.heap_alloc _ _ _ (by simp)]; exact alloc_top w1 _
      · have := alloc_top (w1.alloc (.cells #[.slice none 0 0] 22)) (.cells #[.func (.func 82) #[] #[.pointer (some ⟨w1.heap.size, 0, none⟩), .pointer (some ⟨w1.heap.size + 1, 0, none⟩)]] 134)
        rw [show (w1.alloc (.cells #[.slice none 0 0] 22)).heap.size = w1.heap.size + 1 by simp] at this
        exact this
      · rw [hC]; exact Frm.of_below b2
    have RES := Lib.hid (fun x (hx : x ∈ S.dom) lb wb => res_any C C lb wb S tr h.core.ok h.core.sol.rin h.core.sol.rid x _ (exT_ex h.core.ok h.core.sol h.core.acc (x := x) hx) hx)
    have SAME := Lib.hid (fun W (f : Frm S.D C w W) (tw : TW C W S) => (hC ▸ h : ST C w S tr es sb mb m D nx mrk).frmD f tw)
    have NS := Lib.hid (fun W (f : Frm S.D C w W) => hns.keep f.size fun b o m c e hb => f.block b (by omega) (off b o m c e))
    have GOK := Lib.hid h.core.ok
    obtain ⟨s, hs⟩ : ∃ s, s = sg (S.gr tr) S.rep := ⟨_, rfl⟩
    have HS := Lib.hid hs
    rw [← hs]
    obtain ⟨l, hlen⟩ : ∃ l, l = t.length := ⟨_, rfl⟩
    have HL := Lib.hid hlen
    rw [← hlen] at CK NS l4 ⊢
    have HTY := Lib.hid hty
    have HC := Lib.hid hC
    clear h hns hl sm off hty hty2 hs hlen hC
    unfold pv
    go_enter Tryz.func42, Tryz.ntmps42
    go_wp2_with fail
    refine CK.out.mono ?_
    rintro e w1 ⟨rfl, b1⟩
    obtain ⟨st1, st2⟩ := START.out w1 b1
    have S1 := Lib.hid st1
    have S2 := Lib.hid st2
    clear b1 CK st1 st2 START
    go_wp2
    go_loopw [21] (fun i wr => ∃ j : Nat, j ≤ l ∧ i = .int .i64 j ∧ ∃ L, Hid (WR C C w1.heap.size (w1.heap.size + 1) S L wr) ∧ Hid (Wq j (rs s (t.take j)) L) ∧ Hid (Frm S.D C w wr)) (fun i _ => l - (intOf i).toNat)
    case atStart => exact ⟨0, Nat.zero_le _, rfl, _, S1, Wq.nil, S2⟩
    case round =>
      obtain ⟨j, hj, rfl, L, hW, hQ, hF⟩ := hrel
      obtain ⟨lb, hlb⟩ : ∃ lb, lb = w1.heap.size := ⟨_, rfl⟩
      rw [← hlb] at hW ⊢
      clear S1 S2 hlb
      by_cases hlt : j < l
      · obtain ⟨n, hn⟩ : ∃ n, n = t.getD j default := ⟨_, rfl⟩
        have tw := hW.out.tw
        have NSj := NS.out wr hF.out
        obtain ⟨g1, q', c', e', g2, g3, g4⟩ := NSj
        clear g1
        obtain ⟨b, o, rfl, gb, gc⟩ := g4 (by rw [← HL.out]; omega)
        simp only [Value.slice.injEq] at e'
        obtain ⟨rfl, hlx, rfl⟩ := e'
        clear hlx
        obtain ⟨a0, a1, a2, a3⟩ := CellsIn.node gc j (by rw [← HL.out]; exact hlt)
        rw [← hn] at a0 a1 a2 a3
        have hr : rightN n = true := List.all_eq_true.1 RT.out n (by
          rw [hn, List.getD_eq_getElem?_getD, List.getElem?_eq_getElem (by rw [← HL.out]; exact hlt)]
          exact List.getElem_mem _)
        obtain ⟨⟨r0, r1⟩, r2, r3⟩ := right_num hr
        have stw := SAME.out wr hF.out tw
        have hsl : sb < wr.heap.size := (Array.getElem?_eq_some_iff.1 stw.sbk).1
        have hml : mb < wr.heap.size := stw.map.lt
        have c1 := cell_of_heap stw.sbk 1
        simp only [List.getElem?_toArray, List.getElem?_cons_succ, List.getElem?_cons_zero] at c1
        have wv0 := cell_of_heap hW.out.wv 0
        simp only [List.getElem?_toArray, List.getElem?_cons_zero] at wv0
        have ba : Below wr.heap.size wr (wr.alloc (.cells #[.int .i64 n.kind, .string n.text, .int .i64 n.num, .int .i64 n.kids] 58)) := (Below.refl _ _).alloc (Nat.le_refl _) _
        have c1a := (ba.cell (p := ⟨sb, 1, none⟩) hsl).trans c1
        have wl : lb + 1 < wr.heap.size := (Array.getElem?_eq_some_iff.1 hW.out.wv).1
        have wv1 := (ba.drew.cell (p := ⟨lb + 1, 0, none⟩) wl).trans wv0
        have wv2 := (ba.cell (p := ⟨lb + 1, 0, none⟩) wl).trans wv0
        have BA := Lib.hid ba
        rcases stw.look n.num (by omega) (by omega) (wr.alloc (.cells #[.int .i64 n.kind, .string n.text, .int .i64 n.num, .int .i64 n.kids] 58)).drew (ba.block mb hml) with ⟨x, hx, hnx, hlk⟩ | ⟨hno, hh, hlk⟩
        · by_cases hk : n.kind = 31
          · have t1 : (n.kind == 31) = true := by simpa using hk
            have hQm := hQ.out.most
            have CALL := Lib.hid (RES.out x hx lb (lb + 1) L _ (hW.out.below ba.drew) (by omega))
            have R1 := Lib.hid (rs1_met GOK.out S.rep (x := x) hx (n := n) (by show S.node x = n; rw [hnx]; exact (r2 hk).symm) hk)
            rw [← HS.out] at R1
            have HN := Lib.hid hn
            unfold pv at CALL wv1 wv2
            clear hn tw r0 r1 r2 r3 hr stw hsl hml c1 ba hnx hk wv0 wl hQm gb gc g2 g3 g4
            go_wp2
            go_region
            all_goals
              go_wp2_with fail
              refine Calls.mono CALL.out ?_
              rintro e w3 ⟨rfl, L', k1, k2, k3⟩
              have K1 := Lib.hid (Wr.wq (s := s) (t := t) (by rw [← HL.out]; exact hlt) hQ.out k1 (by rw [← HN.out]; exact R1.out))
              have K2 := Lib.hid k2
              have K3 := Lib.hid ((hF.out.trans ((Frm.of_below BA.out.drew).mono hW.out.cl.2.2 (fun _ _ hd => hd))).trans k3)
              clear k1 k2 k3 CALL R1
              go_wp2
              go_roundw
              case rel => exact ⟨j + 1, by omega, by go_num, L', K2, K1, K3⟩
              case measure => simp [intOf]; omega
          · have t1 : (n.kind == 31) = false := by simpa using hk
            have R1 := Lib.hid (rs1_not (G := S.gr tr) S.rep (n := n) r2 fun e => absurd e hk)
            clear hx hnx hk
            rw [← HS.out] at R1
            have HN := Lib.hid hn
            obtain ⟨lv, hl2, hrow2⟩ := hW.out.l
            have hQm := hQ.out.most
            clear hn tw r0 r1 r2 r3 hr stw hsl hml c1 ba wv0 wv1 wv2 wl gb gc g2 g3 g4
            go_wp2
            go_region
            all_goals
              obtain ⟨w2, hw2⟩ : ∃ w2, w2 = (wr.alloc (.cells #[.int .i64 n.kind, .string n.text, .int .i64 n.num, .int .i64 n.kids] 58)).drew := ⟨_, rfl⟩
              obtain ⟨nb, hnb⟩ : ∃ nb, nb = wr.heap.size := ⟨_, rfl⟩
              rw [← hw2]
              rw [← hnb]
              have h2b : Below wr.heap.size wr w2 := by rw [hw2]; exact BA.out.drew
              have hnn : w2.heap[nb]? = some (.cells #[.int .i64 n.kind, .string n.text, .int .i64 n.num, .int .i64 n.kids] 58 (0, 0)) := by rw [hw2, hnb]; exact alloc_top wr _
              have hw2' := hW.out.below h2b
              obtain ⟨lv', hl', hrow'⟩ := hw2'.l
              obtain ⟨q1, c1, rfl⟩ := row_form hrow'
              obtain ⟨k, hkl⟩ : ∃ k, k = L.length := ⟨_, rfl⟩
              rw [← hkl] at hl' hrow' hQm
              have l1 := cell_of_heap hl' 0
              have fl1 := frozen_of_heap hl' 0
              simp only [List.getElem?_toArray, List.getElem?_cons_zero] at l1
              have r0 := cell_of_heap hnn 0
              have r1 := cell_of_heap hnn 1
              have r2 := cell_of_heap hnn 2
              have r3 := cell_of_heap hnn 3
              simp only [List.getElem?_toArray, List.getElem?_cons_zero, List.getElem?_cons_succ] at r0 r1 r2 r3
              have lbl : lb < w2.heap.size := (Array.getElem?_eq_some_iff.1 hl').1
              have rl : nb < w2.heap.size := (Array.getElem?_eq_some_iff.1 hnn).1
              have SSF : Hid (∀ W, Below w2.heap.size w2 W → W.cell? ⟨lb, 0, none⟩ = some (.slice q1 k c1) ∧ W.frozen? ⟨lb, 0, none⟩ = false ∧ W.cell? ⟨nb, 0, none⟩ = some (.int .i64 n.kind) ∧ W.cell? ⟨nb, 1, none⟩ = some (.string n.text) ∧ W.cell? ⟨nb, 2, none⟩ = some (.int .i64 n.num) ∧ W.cell? ⟨nb, 3, none⟩ = some (.int .i64 n.kids)) := Lib.hid fun W hW =>
                ⟨(hW.cell (p := ⟨lb, 0, none⟩) lbl).trans l1, (hW.frozen (p := ⟨lb, 0, none⟩) lbl).trans fl1, (hW.cell (p := ⟨nb, 0, none⟩) rl).trans r0, (hW.cell (p := ⟨nb, 1, none⟩) rl).trans r1, (hW.cell (p := ⟨nb, 2, none⟩) rl).trans r2, (hW.cell (p := ⟨nb, 3, none⟩) rl).trans r3⟩
              have APH : Hid (∀ W, Below w2.heap.size w2 W → W.ownsRow C 58 4 (.slice q1 k c1) k (nodeCells L)) := Lib.hid fun W hW => World.ownsRow.keep hrow' fun g hg => hW.block g (World.ownsRow.there hrow' hg).2
              have NLB := Lib.hid (show some lb ≠ (Value.slice q1 k c1).ownBlock from fun e => by
                obtain ⟨cur, hc⟩ := row_ty hrow' e.symm
                rw [hl'] at hc; simp at hc)
              have LBL := Lib.hid lbl
              have H1 := Lib.hid hw2'
              have F1 := Lib.hid (hF.out.trans ((Frm.of_below (D := S.D) h2b).mono hW.out.cl.2.2 (fun _ _ hd => hd)))
              have HL1 := Lib.hid hl'
              have ROW1 := Lib.hid hrow'
              have HKL := Lib.hid hkl
              obtain ⟨j0, j1, j2, j3, j4⟩ := info44
              have HJ := Lib.hid (And.intro j1 (And.intro j2 (And.intro j3 j4)))
              have HMX := Lib.hid (show k + 1 ≤ maxLen ∧ (k + 1) * 40 ≤ 140737488355328 ∧ C ≤ w2.heap.size from ⟨by unfold maxLen; omega, by omega, hw2'.cl.2.2⟩)
              have HLC := Lib.hid (fun W => lit_cells W #[.int .i64 n.kind, .string n.text, .int .i64 n.num, .int .i64 n.kids] 58)
              have HCELL : Hid (n.cells = [.int .i64 n.kind, .string n.text, .int .i64 n.num, .int .i64 n.kids]) := rfl
              clear hl' hrow' r0 r1 r2 r3 l1 fl1 lbl rl hw2' hkl hnn hw2 hnb h2b j1 j2 j3 j4 hl2 hrow2 c1a BA hlk a0 a1 a2 a3 hW hF 
              obtain ⟨p0, pf, a0, a1, a2, a3⟩ := SSF.out _ (Below.refl _ _)
              obtain ⟨p0a, pfa, b0, b1, b2, b3⟩ := SSF.out _ ((Below.refl w2.heap.size w2).alloc (Nat.le_refl _) (.cells #[.int .i64 n.kind, .string n.text, .int .i64 n.num, .int .i64 n.kids] 58))
              have AL2 : Below w2.heap.size w2 (w2.alloc (.cells #[.int .i64 n.kind, .string n.text, .int .i64 n.num, .int .i64 n.kids] 58)) := (Below.refl w2.heap.size w2).alloc (Nat.le_refl _) _
              have ALH := Lib.hid AL2
              have ROWA := Lib.hid (APH.out _ AL2)
              clear AL2
              go_wp2_with (at_builtin; refine wpList_append_any _ rfl _ _ 22 rfl C 58 j0 zeroNode 4 40 Tryz.underlying22 HJ.out.1 HJ.out.2.1 HJ.out.2.2.1 HJ.out.2.2.2 rfl (by decide) (.slice q1 k c1) k (nodeCells L) rfl ROWA.out (some ⟨w2.heap.size, 0, none⟩) 1 1 [.int .i64 n.kind, .string n.text, .int .i64 n.num, .int .i64 n.kids] rfl rfl (fun _ => ⟨_, rfl, CellsIn.at (HLC.out w2)⟩) (by intro u hu; simp at hu; rcases hu with rfl | rfl | rfl | rfl <;> rfl) HMX.out.1 HMX.out.2.1 (Nat.le_trans HMX.out.2.2 ALH.out.size) ?_; intro p' cap' w7 hown hgrow hblk; have RN := Lib.hid hown; have GN := Lib.hid hgrow; have ⟨p7, f7⟩ : w7.cell? ⟨lb, 0, none⟩ = some (.slice q1 k c1) ∧ w7.frozen? ⟨lb, 0, none⟩ = false := (by have s := SSF.out _ ALH.out; exact ⟨hgrow.cell s.1 NLB.out, (World.frozen?_of_block (hgrow.block lb (Nat.lt_of_lt_of_le LBL.out ALH.out.size) NLB.out)).trans s.2.1⟩); clear hown hgrow hblk)
              go_roundw
              case rel =>
                obtain ⟨h3, b12⟩ := H1.out.more HL1.out (by rw [← HKL.out]; exact ROW1.out) ALH.out GN.out (x := n) (nv := .slice p' (k + 1) cap') (by rw [← HKL.out, HCELL.out]; exact RN.out)
                exact ⟨j + 1, by omega, by go_num, _, Lib.hid h3, Lib.hid (Wq.one (s := s) (t := t) (by rw [← HL.out]; exact hlt) hQ.out n (by rw [← HN.out]; exact R1.out)), Lib.hid (F1.out.trans (Frm.of_below (D := S.D) b12))⟩
              case measure => simp [intOf]; omega
        · have R1 := Lib.hid (rs1_not (G := S.gr tr) S.rep (n := n) r2 fun _ ⟨x, hx, e⟩ => hno x hx e)
          rw [← HS.out] at R1
          have HN := Lib.hid hn
          obtain ⟨lv, hl2, hrow2⟩ := hW.out.l
          have hQm := hQ.out.most
          clear hn tw r0 r1 r2 r3 hr stw hsl hml c1 ba hno wv0 wv1 wv2 wl gb gc g2 g3 g4 hh
          go_wp2
          go_region
          all_goals
            obtain ⟨w2, hw2⟩ : ∃ w2, w2 = (wr.alloc (.cells #[.int .i64 n.kind, .string n.text, .int .i64 n.num, .int .i64 n.kids] 58)).drew := ⟨_, rfl⟩
            obtain ⟨nb, hnb⟩ : ∃ nb, nb = wr.heap.size := ⟨_, rfl⟩
            rw [← hw2]
            rw [← hnb]
            have h2b : Below wr.heap.size wr w2 := by rw [hw2]; exact BA.out.drew
            have hnn : w2.heap[nb]? = some (.cells #[.int .i64 n.kind, .string n.text, .int .i64 n.num, .int .i64 n.kids] 58 (0, 0)) := by rw [hw2, hnb]; exact alloc_top wr _
            have hw2' := hW.out.below h2b
            obtain ⟨lv', hl', hrow'⟩ := hw2'.l
            obtain ⟨q1, c1, rfl⟩ := row_form hrow'
            obtain ⟨k, hkl⟩ : ∃ k, k = L.length := ⟨_, rfl⟩
            rw [← hkl] at hl' hrow' hQm
            have l1 := cell_of_heap hl' 0
            have fl1 := frozen_of_heap hl' 0
            simp only [List.getElem?_toArray, List.getElem?_cons_zero] at l1
            have r0 := cell_of_heap hnn 0
            have r1 := cell_of_heap hnn 1
            have r2 := cell_of_heap hnn 2
            have r3 := cell_of_heap hnn 3
            simp only [List.getElem?_toArray, List.getElem?_cons_zero, List.getElem?_cons_succ] at r0 r1 r2 r3
            have lbl : lb < w2.heap.size := (Array.getElem?_eq_some_iff.1 hl').1
            have rl : nb < w2.heap.size := (Array.getElem?_eq_some_iff.1 hnn).1
            have SSF : Hid (∀ W, Below w2.heap.size w2 W → W.cell? ⟨lb, 0, none⟩ = some (.slice q1 k c1) ∧ W.frozen? ⟨lb, 0, none⟩ = false ∧ W.cell? ⟨nb, 0, none⟩ = some (.int .i64 n.kind) ∧ W.cell? ⟨nb, 1, none⟩ = some (.string n.text) ∧ W.cell? ⟨nb, 2, none⟩ = some (.int .i64 n.num) ∧ W.cell? ⟨nb, 3, none⟩ = some (.int .i64 n.kids)) := Lib.hid fun W hW =>
              ⟨(hW.cell (p := ⟨lb, 0, none⟩) lbl).trans l1, (hW.frozen (p := ⟨lb, 0, none⟩) lbl).trans fl1, (hW.cell (p := ⟨nb, 0, none⟩) rl).trans r0, (hW.cell (p := ⟨nb, 1, none⟩) rl).trans r1, (hW.cell (p := ⟨nb, 2, none⟩) rl).trans r2, (hW.cell (p := ⟨nb, 3, none⟩) rl).trans r3⟩
            have APH : Hid (∀ W, Below w2.heap.size w2 W → W.ownsRow C 58 4 (.slice q1 k c1) k (nodeCells L)) := Lib.hid fun W hW => World.ownsRow.keep hrow' fun g hg => hW.block g (World.ownsRow.there hrow' hg).2
            have NLB := Lib.hid (show some lb ≠ (Value.slice q1 k c1).ownBlock from fun e => by
              obtain ⟨cur, hc⟩ := row_ty hrow' e.symm
              rw [hl'] at hc; simp at hc)
            have LBL := Lib.hid lbl
            have H1 := Lib.hid hw2'
            have F1 := Lib.hid (hF.out.trans ((Frm.of_below (D := S.D) h2b).mono hW.out.cl.2.2 (fun _ _ hd => hd)))
            have HL1 := Lib.hid hl'
            have ROW1 := Lib.hid hrow'
            have HKL := Lib.hid hkl
            obtain ⟨j0, j1, j2, j3, j4⟩ := info44
            have HJ := Lib.hid (And.intro j1 (And.intro j2 (And.intro j3 j4)))
            have HMX := Lib.hid (show k + 1 ≤ maxLen ∧ (k + 1) * 40 ≤ 140737488355328 ∧ C ≤ w2.heap.size from ⟨by unfold maxLen; omega, by omega, hw2'.cl.2.2⟩)
            have HLC := Lib.hid (fun W => lit_cells W #[.int .i64 n.kind, .string n.text, .int .i64 n.num, .int .i64 n.kids] 58)
            have HCELL : Hid (n.cells = [.int .i64 n.kind, .string n.text, .int .i64 n.num, .int .i64 n.kids]) := rfl
            clear hl' hrow' r0 r1 r2 r3 l1 fl1 lbl rl hw2' hkl hnn hw2 hnb h2b j1 j2 j3 j4 hl2 hrow2 c1a BA hlk a0 a1 a2 a3 hW hF 
            obtain ⟨p0, pf, a0, a1, a2, a3⟩ := SSF.out _ (Below.refl _ _)
            obtain ⟨p0a, pfa, b0, b1, b2, b3⟩ := SSF.out _ ((Below.refl w2.heap.size w2).alloc (Nat.le_refl _) (.cells #[.int .i64 n.kind, .string n.text, .int .i64 n.num, .int .i64 n.kids] 58))
            have AL2 : Below w2.heap.size w2 (w2.alloc (.cells #[.int .i64 n.kind, .string n.text, .int .i64 n.num, .int .i64 n.kids] 58)) := (Below.refl w2.heap.size w2).alloc (Nat.le_refl _) _
            have ALH := Lib.hid AL2
            have ROWA := Lib.hid (APH.out _ AL2)
            clear AL2
            go_wp2_with (at_builtin; refine wpList_append_any _ rfl _ _ 22 rfl C 58 j0 zeroNode 4 40 Tryz.underlying22 HJ.out.1 HJ.out.2.1 HJ.out.2.2.1 HJ.out.2.2.2 rfl (by decide) (.slice q1 k c1) k (nodeCells L) rfl ROWA.out (some ⟨w2.heap.size, 0, none⟩) 1 1 [.int .i64 n.kind, .string n.text, .int .i64 n.num, .int .i64 n.kids] rfl rfl (fun _ => ⟨_, rfl, CellsIn.at (HLC.out w2)⟩) (by intro u hu; simp at hu; rcases hu with rfl | rfl | rfl | rfl <;> rfl) HMX.out.1 HMX.out.2.1 (Nat.le_trans HMX.out.2.2 ALH.out.size) ?_; intro p' cap' w7 hown hgrow hblk; have RN := Lib.hid hown; have GN := Lib.hid hgrow; have ⟨p7, f7⟩ : w7.cell? ⟨lb, 0, none⟩ = some (.slice q1 k c1) ∧ w7.frozen? ⟨lb, 0, none⟩ = false := (by have s := SSF.out _ ALH.out; exact ⟨hgrow.cell s.1 NLB.out, (World.frozen?_of_block (hgrow.block lb (Nat.lt_of_lt_of_le LBL.out ALH.out.size) NLB.out)).trans s.2.1⟩); clear hown hgrow hblk)
            go_roundw
            case rel =>
              obtain ⟨h3, b12⟩ := H1.out.more HL1.out (by rw [← HKL.out]; exact ROW1.out) ALH.out GN.out (x := n) (nv := .slice p' (k + 1) cap') (by rw [← HKL.out, HCELL.out]; exact RN.out)
              exact ⟨j + 1, by omega, by go_num, _, Lib.hid h3, Lib.hid (Wq.one (s := s) (t := t) (by rw [← HL.out]; exact hlt) hQ.out n (by rw [← HN.out]; exact R1.out)), Lib.hid (F1.out.trans (Frm.of_below (D := S.D) b12))⟩
            case measure => simp [intOf]; omega
      · obtain rfl : j = l := by omega
        have et : t.take j = t := List.take_of_length_le (by rw [← HL.out]; omega)
        rw [et] at hQ
        obtain ⟨lv, hl', hrow'⟩ := hW.out.l
        obtain ⟨q1, c1, rfl⟩ := row_form hrow'
        have l1 := cell_of_heap hl' 0
        simp only [List.getElem?_toArray, List.getElem?_cons_zero] at l1
        have TWE := Lib.hid (show TW w.heap.size wr S from HC.out ▸ hW.out.tw)
        have FRE := Lib.hid (show Frm S.D w.heap.size w wr from HC.out ▸ hF.out)
        by_cases hg : (rs s t).length ≤ 4000
        · have hLe : L = rs s t := hQ.out.fits hg
          have E : Hid (RvP S s t w (.returned (.tuple #[.slice q1 L.length c1, .int .i64 0])) wr) := .ok HTY.out hg (.slice q1 L.length c1) rfl (by rw [hLe] at hrow' ⊢; exact HC.out ▸ hrow') FRE.out TWE.out
          obtain ⟨k, hk⟩ : ∃ k, k = L.length := ⟨_, rfl⟩
          rw [← hLe] at hg
          rw [← hk] at E l1 hg
          have t1 : decide ((4000 : Int) < (k : Int)) = false := by simp; omega
          clear hW hQ hF hlt et hl' hrow' hLe hk TWE FRE
          go_wp2
          go_ret2
          exact E.out
        · have E : Hid (RvP S s t w (.returned (.tuple #[.slice none 0 0, .int .i64 92])) wr) := .great HTY.out (by omega) rfl FRE.out TWE.out
          have ho := hQ.out.over (by omega)
          obtain ⟨k, hk⟩ : ∃ k, k = L.length := ⟨_, rfl⟩
          rw [← hk] at l1 ho
          have t1 : decide ((4000 : Int) < (k : Int)) = true := by simp; omega
          clear hW hQ hF hlt et hl' hrow' hk TWE FRE hg
          go_wp2
          go_ret2
          exact E.out
end Go.Proofs.YtncifeeinogcnaaGreatDoor
/- A new list of nodes lies behind all that was. -/
set_option maxRecDepth 100000
namespace Go.Proofs.YtncifeeinogcnaaGreatDoor
open Go.RowKit Go.Proofs.TreeMath
def NNew (W : World) (ns : List Nd) (e : Ending) (w' : World) : Prop := ∃ b n c, e = .returned (.slice (some ⟨b, 0, none⟩) n c) ∧ W.heap.size ≤ b ∧ NodesAt w' (.slice (some ⟨b, 0, none⟩) n c) ns ∧ Below W.heap.size W w'
set_option maxHeartbeats 2000000 in
theorem join_new (b off c : Nat) (Ls : List (List Nd)) (w : World) (hb : b < w.heap.size) (hL : Hid (Lists w b off Ls)) (hn : Ls.flatten.length ≤ 1000000) (hc : Ls.length ≤ 5000) :
    Calls Tryz.prog 122 #[.slice (some ⟨b, off, none⟩) Ls.length c] w (NNew w Ls.flatten) := by
  obtain ⟨i0, hi, hz0, hz1, hz2⟩ := infoNode
  have HI := Lib.hid (And.intro hi (And.intro hz0 (And.intro hz1 hz2)))
  clear hi hz0 hz1 hz2
  obtain ⟨N, hN⟩ : ∃ N, N = Ls.flatten.length := ⟨_, rfl⟩
  have hn' : N ≤ 1000000 := by omega
  have HN := Lib.hid hN
  clear hN hn
  go_enter Tryz.func122, Tryz.ntmps122
  go_wp2
  go_loop [3, 12] (fun s i => ∃ k S : Nat, k ≤ Ls.length ∧ i = .int .i64 k ∧ s = .int .i64 S ∧ S = sumTo Ls k) (fun _ i => Ls.length - (intOf i).toNat)
  case atStart => exact ⟨0, 0, Nat.zero_le _, rfl, rfl, rfl⟩
  case round =>
    obtain ⟨k, S, hk, rfl, rfl, hS⟩ := hrel
    by_cases hlt : k < Ls.length
    · obtain ⟨p, n, cp, hv, hvl, _⟩ := hL.out.one k hlt
      have hs1 := sumTo_succ Ls k hlt
      have hs2 : S + n ≤ N := by have := sumTo_le Ls (k + 1); rw [HN.out]; omega
      have HS : Hid (S + n = sumTo Ls (k + 1)) := Lib.hid (by omega)
      clear hs1 hS hvl
      go_wp2
      go_round
      case rel => exact ⟨k + 1, S + n, by omega, by go_num, by go_num, HS.out⟩
      case measure => simp [intOf]; omega
    · obtain rfl : S = N := by rw [hS, HN.out, show k = Ls.length by omega, sumTo_all]
      clear hS
      go_wp2_with ((at_make; refine wpList_make_full _ rfl _ _ 22 rfl w.heap.size 58 i0 zeroNode 4 Tryz.underlying22 HI.out.1 HI.out.2.1 HI.out.2.2.1 .i64 .i64 _ _ S rfl rfl rfl rfl (by rw [HI.out.2.2.2]; omega) (by unfold maxLen; omega) (Nat.le_refl _) ?_; intro w1 hown hgrow; have HO := Lib.hid hown; have HG := Lib.hid hgrow; clear hown hgrow))
      obtain ⟨hol, hor⟩ := HO.out
      obtain ⟨cur, hcur, hcl⟩ : ∃ cur : List Value, w1.heap[w.heap.size]? = some (.cells cur.toArray 58 (0, 0)) ∧ cur.length = S * 4 := by
        rcases hor with ⟨h, _⟩ | ⟨g, cap, cur, h1, _, h3, _, _, h6, _⟩
        · simp at h
        · simp at h1
          obtain ⟨rfl, rfl⟩ := h1
          exact ⟨cur.toList, by simpa using h3, by simpa using h6⟩
      have hB1 : Below w.heap.size w w1 := (Below.refl _ _).grown HG.out (Nat.le_refl _) (fun k hk => by simp at hk)
      have HC := Lib.hid hcur
      have HL2 := Lib.hid hcl
      clear hol hor hcur hcl
      go_loopw [7, 25] (fun s i wr => ∃ k A : Nat, ∃ rest : List Value, k ≤ Ls.length ∧ i = .int .i64 k ∧ s = .int .i64 A ∧ A = sumTo Ls k ∧ Below w.heap.size w wr ∧ rest.length = S * 4 - A * 4 ∧ wr.heap[w.heap.size]? = some (.cells (nodeCells (Ls.take k).flatten ++ rest).toArray 58 (0, 0))) (fun _ i _ => Ls.length - (intOf i).toNat)
      case atStart => exact ⟨0, 0, cur, Nat.zero_le _, rfl, rfl, rfl, hB1, by rw [HL2.out]; omega, by simpa [nodeCells] using HC.out⟩
      case round =>
        obtain ⟨k, A, rest, hk, rfl, rfl, hA, hbel, hrest, hblk⟩ := hrel
        have HB := Lib.hid hblk
        have HR := Lib.hid hrest
        clear hblk hrest
        by_cases hlt : k < Ls.length
        · obtain ⟨p, n, cp, hv, hvl, hnode⟩ := (hL.out.below hbel hb).one k hlt
          have hs1 := sumTo_succ Ls k hlt
          have hs2 : A + n ≤ S := by have := sumTo_le Ls (k + 1); rw [HN.out]; omega
          have HS : Hid (A + n = sumTo Ls (k + 1)) := Lib.hid (by omega)
          have HA := Lib.hid hA
          have HV := Lib.hid hvl
          have HNo := Lib.hid hnode
          obtain ⟨X, hX⟩ : ∃ X, X = nodeCells (Ls.take k).flatten := ⟨_, rfl⟩
          rw [← hX] at HB
          have hXl : X.length = A * 4 := by rw [hX, length_nodeCells, hA]; rfl
          have HX := Lib.hid hX
          have HXl := Lib.hid hXl
          obtain ⟨Y, hY⟩ : ∃ Y, Y = nodeCells (Ls.getD k []) := ⟨_, rfl⟩
          have hYl : Y.length = n * 4 := by rw [hY, length_nodeCells, hvl]
          have HY := Lib.hid hY
          have HYl := Lib.hid hYl
          have hsrc : 0 < n → ∃ ad, p = some ad ∧ ∀ j v, Y[j]? = some v → wr.cell? (ad.add j) = some v := by
            intro h0
            obtain ⟨_, p2, c2, h1, _, _, h4⟩ := hnode
            simp only [Value.slice.injEq] at h1
            obtain ⟨rfl, h2, _⟩ := h1
            obtain ⟨bb, oo, rfl, _, hc⟩ := h4 (by omega)
            exact ⟨_, rfl, by rw [hY]; exact hc.at⟩
          have HSrc := Lib.hid hsrc
          clear hs1 hA hvl hnode hX hXl hY hYl hsrc
          have hAS : A = S ∨ A < S := by omega
          rcases hAS with rfl | hAS
          · go_wp2_with (((with_reducible refine wpList_copy_many rfl (.tmp 32) (.tmp 33) 22 22 rfl 58 4 n Tryz.underlying22 sizeNode (some ⟨w.heap.size, 0, none⟩) p 0 0 n cp ?a7 ?a8 ?c1 w.heap.size (A * 4) (X ++ rest) 58 ?HB Y ?c0 ?c2 ?c3 ?c4 w.heap.size w ?c6 ?c7 ?c5); (case a7 => rfl); (case a8 => rfl); (case c1 => omega); (case HB => exact HB.out); (case c0 => exact HYl.out); (case c2 => intro h; omega); (case c3 => rw [HYl.out, List.length_append, HXl.out, HR.out]; omega); (case c4 => rw [HY.out]; exact nodeCells_one _); (case c6 => exact hbel); (case c7 => exact Nat.le_refl _); intro w3 H3 hbel3))
            go_roundw
            case rel => exact ⟨k + 1, A + n, rest.drop Y.length, by omega, by go_num, by go_num, HS.out, hbel3, by rw [List.length_drop, HR.out, HYl.out]; omega, by
              have h3 := H3.out
              rw [splice_row X rest Y (A * 4) HXl.out.symm, HX.out, HY.out, ← nodeCells_append, ← take_flat Ls k hlt] at h3
              rw [HY.out]
              exact h3⟩
            case measure => simp [intOf]; omega
          · go_wp2_with (((with_reducible refine wpList_copy_many rfl (.tmp 32) (.tmp 33) 22 22 rfl 58 4 n Tryz.underlying22 sizeNode (some ⟨w.heap.size, A * 4, none⟩) p (S - A) (S - A) n cp ?za7 ?za8 ?zc1 w.heap.size (A * 4) (X ++ rest) 58 ?zHB Y ?zc0 ?zc2 ?zc3 ?zc4 w.heap.size w ?zc6 ?zc7 ?zc5); (case za7 => rfl); (case za8 => rfl); (case zc1 => omega); (case zHB => exact HB.out); (case zc0 => exact HYl.out); (case zc2 => intro h9; exact ⟨rfl, HSrc.out h9⟩); (case zc3 => rw [HYl.out, List.length_append, HXl.out, HR.out]; omega); (case zc4 => rw [HY.out]; exact nodeCells_one _); (case zc6 => exact hbel); (case zc7 => exact Nat.le_refl _); intro w3 H3 hbel3))
            go_roundw
            case rel => exact ⟨k + 1, A + n, rest.drop Y.length, by omega, by go_num, by go_num, HS.out, hbel3, by rw [List.length_drop, HR.out, HYl.out]; omega, by
              have h3 := H3.out
              rw [splice_row X rest Y (A * 4) HXl.out.symm, HX.out, HY.out, ← nodeCells_append, ← take_flat Ls k hlt] at h3
              rw [HY.out]
              exact h3⟩
            case measure => simp [intOf]; omega
        · obtain rfl : k = Ls.length := by omega
          have hAS : A = S := by rw [hA, sumTo_all, HN.out]
          have hr0 : rest = [] := List.eq_nil_of_length_eq_zero (by rw [HR.out]; omega)
          have HA := Lib.hid hAS
          have H0 := Lib.hid hr0
          clear hA hAS hr0
          go_wp2
          go_ret
          refine ⟨_, _, _, rfl, Nat.le_refl _, ?_, hbel⟩
          have hb4 := HB.out
          rw [H0.out, List.append_nil, List.take_length] at hb4
          refine ⟨length_nodeCells _, _, S, by rw [HN.out], by rw [HN.out]; exact Nat.le_refl _, by unfold maxLen; omega, fun _ => ⟨_, _, rfl, (Array.getElem?_eq_some_iff.1 hb4).1, ?_⟩⟩
          intro j u hj
          simp [World.cell?, hb4]
          simpa using hj
set_option maxHeartbeats 1000000 in
theorem make_new (k m s : Int) (t : ByteArray) (p : Option Addr) (c : Nat) (w : World) :
    Calls Tryz.prog 95 #[.agg #[.int .i64 k, .string t, .int .i64 m, .int .i64 s], .slice p 0 c] w (NNew w [⟨k, t, m, 0⟩]) := by
  rcases p with _ | a <;>
  · go_enter Tryz.func95, Tryz.ntmps95
    go_wp2_with fail
    refine (join_new (w.heap.size + 1 + 1) 0 1 [[⟨k, t, m, 0⟩]] _ (by simp) (by
      have h := lists_one ((w.alloc (.cells #[.int .i64 k, .string t, .int .i64 m, .int .i64 0] 58)).alloc (.cells #[.int .i64 k, .string t, .int .i64 m, .int .i64 0] 58)) (.slice (some ⟨w.heap.size + 1, 0, none⟩) 1 1) 22 [⟨k, t, m, 0⟩] (by
        have := node_new (w.alloc (.cells #[.int .i64 k, .string t, .int .i64 m, .int .i64 0] 58)) ⟨k, t, m, 0⟩
        simpa using this)
      show Lists _ _ _ _
      simpa using h) (by simp) (by simp)).mono ?_
    rintro e w1 ⟨b, nn, cc, rfl, hbw, hv, hb1⟩
    have HV := Lib.hid hv
    clear hv
    go_wp2_with fail
    go_ret
    refine ⟨_, _, _, rfl, by first | (simp at hbw; omega) | (simp at hbw), ?_, ((((Below.refl _ _).alloc (Nat.le_refl _) _).alloc (by simp) _).alloc (by simp; omega) _).trans (hb1.mono (by simp; omega))⟩
    have h9 := HV.out
    simp only [List.flatten_cons, List.flatten_nil, List.append_nil] at h9
    exact h9
end Go.Proofs.YtncifeeinogcnaaGreatDoor
