/- Texts of this seat, one behind the other: ReB, ReC. -/
import Derived.Test.YtncifeeinogcnaaGreatDoorKn17
/- The contract of Resolve's closure: the walk. -/
set_option maxRecDepth 100000
namespace Go.Proofs.YtncifeeinogcnaaGreatDoor
open Go.RowKit Go.Lib Go.Maps Go.Proofs.TreeMath

def flK (g : Nat → T) (ks : List Nat) : List Nd := ks.flatMap fun k => flatT (g k)
theorem flat_fo (g : Nat → T) (ks : List Nat) : (fo g ks).flat = flK g ks := by
  induction ks with
  | nil => rfl
  | cons k ks ih => simp only [fo, F.flat, flK, List.flatMap_cons, flatT, List.append_nil] at ih ⊢; rw [ih]; simp
theorem flatT_fo (n : Nd) (g : Nat → T) (ks : List Nat) : flatT (n, fo g ks) = [n] ++ flK g ks := by simp [flatT, F.flat, flat_fo]
set_option maxHeartbeats 4000000 in
theorem res_step (B C lb wb : Nat) (S : SS) (x : Nat) (g : Nat → T) (hx : x ∈ S.dom) (hr : S.rep x ∈ S.dom) (hrr : S.rep (S.rep x) = S.rep x) (ih : ∀ k ∈ S.kids (S.rep x), RsC B C lb wb S k (g k)) : RsC B C lb wb S x (S.node (S.rep x), fo g (S.kids (S.rep x))) := by
  intro L w h hL
  by_cases hfull : 4000 < L.length
  · exact res_full B C lb wb S x _ L w h hfull hL
  · rw [flatT_fo]
    have ROOT := Lib.hid (root_any B S x w hx h.tw)
    obtain ⟨lv, hl, hrow⟩ := h.l
    obtain ⟨q, c, rfl⟩ := row_form hrow
    have l0 := cell_of_heap hl 0
    simp only [List.getElem?_toArray, List.getElem?_cons_zero] at l0
    obtain ⟨n, hn⟩ : ∃ n, n = L.length := ⟨_, rfl⟩
    rw [← hn] at l0 hL hfull
    have t1 : decide ((4000 : Int) < (n : Int)) = false := by simp; omega
    have H := Lib.hid h
    have HN := Lib.hid hn
    obtain ⟨r, hrd⟩ : ∃ r, r = S.rep x := ⟨_, rfl⟩
    rw [← hrd] at ROOT hr hrr ih ⊢
    have HR := Lib.hid hr
    have HRR := Lib.hid hrr
    have IH := Lib.hid ih
    clear h hl hrow hn hrd hr hrr ih
    unfold pv at ROOT ⊢
    go_enter Tryz.func82, Tryz.ntmps82
    go_wp2_with fail
    refine Calls.mono ROOT.out ?_
    rintro e w1 hR
    obtain ⟨h1, f1⟩ := H.out.root hR
    obtain ⟨rfl, _, _⟩ := hR
    unfold pv
    obtain ⟨lv, hl, hrow⟩ := h1.l
    obtain ⟨q1, c1, rfl⟩ := row_form hrow
    rw [← HN.out] at hl
    have hrow' : w1.ownsRow C 58 4 (.slice q1 n c1) n (nodeCells L) := by rw [HN.out]; exact hrow
    have l1 := cell_of_heap hl 0
    have fl1 := frozen_of_heap hl 0
    simp only [List.getElem?_toArray, List.getElem?_cons_zero] at l1
    obtain ⟨r0, r1, r2, r3, _, _, _⟩ := node_cells h1.tw (x := r) HR.out
    obtain ⟨nd, hnd⟩ : ∃ nd, nd = S.node r := ⟨_, rfl⟩
    rw [← hnd] at r0 r1 r2 r3 ⊢
    have lbl : lb < w1.heap.size := (Array.getElem?_eq_some_iff.1 hl).1
    have rl : r < w1.heap.size := Nat.lt_of_lt_of_le (h1.tw.blk (x := r) HR.out).1 h1.tw.fit
    have SSF : Hid (∀ W, Below w1.heap.size w1 W → W.cell? ⟨lb, 0, none⟩ = some (.slice q1 n c1) ∧ W.frozen? ⟨lb, 0, none⟩ = false ∧ W.cell? ⟨r, 0, none⟩ = some (.int .i64 nd.kind) ∧ W.cell? ⟨r, 1, none⟩ = some (.string nd.text) ∧ W.cell? ⟨r, 2, none⟩ = some (.int .i64 nd.num) ∧ W.cell? ⟨r, 3, none⟩ = some (.int .i64 nd.kids)) := Lib.hid fun W hW =>
      ⟨(hW.cell (p := ⟨lb, 0, none⟩) lbl).trans l1, (hW.frozen (p := ⟨lb, 0, none⟩) lbl).trans fl1, (hW.cell (p := ⟨r, 0, none⟩) rl).trans r0, (hW.cell (p := ⟨r, 1, none⟩) rl).trans r1, (hW.cell (p := ⟨r, 2, none⟩) rl).trans r2, (hW.cell (p := ⟨r, 3, none⟩) rl).trans r3⟩
    have APH : Hid (∀ W, Below w1.heap.size w1 W → W.ownsRow C 58 4 (.slice q1 n c1) n (nodeCells L)) := Lib.hid fun W hW => World.ownsRow.keep hrow' fun g hg => hW.block g (World.ownsRow.there hrow' hg).2
    have NLB := Lib.hid (show some lb ≠ (Value.slice q1 n c1).ownBlock from fun e => by
      obtain ⟨cur, hc⟩ := row_ty hrow' e.symm
      rw [hl] at hc; simp at hc)
    have LBL := Lib.hid lbl
    have H1 := Lib.hid h1
    have F1 := Lib.hid f1
    have HL1 := Lib.hid hl
    have ROW1 := Lib.hid hrow'
    have HND := Lib.hid hnd
    obtain ⟨j0, j1, j2, j3, j4⟩ := info44
    have HJ := Lib.hid (And.intro j1 (And.intro j2 (And.intro j3 j4)))
    have HMX := Lib.hid (show n + 1 ≤ maxLen ∧ (n + 1) * 40 ≤ 140737488355328 ∧ C ≤ w1.heap.size from ⟨by unfold maxLen; omega, by omega, h1.cl.2.2⟩)
    have HLC := Lib.hid (fun W => lit_cells W #[.int .i64 nd.kind, .string nd.text, .int .i64 nd.num, .int .i64 nd.kids] 58)
    have HCELL : Hid (nd.cells = [.int .i64 nd.kind, .string nd.text, .int .i64 nd.num, .int .i64 nd.kids]) := rfl
    clear hl hrow hrow' r0 r1 r2 r3 l1 fl1 lbl rl h1 f1 hnd j1 j2 j3 j4 H l0 ROOT
    obtain ⟨p0, pf, a0, a1, a2, a3⟩ := SSF.out _ (Below.refl _ _)
    obtain ⟨p0a, pfa, b0, b1, b2, b3⟩ := SSF.out _ ((Below.refl w1.heap.size w1).alloc (Nat.le_refl _) (.cells #[.int .i64 nd.kind, .string nd.text, .int .i64 nd.num, .int .i64 nd.kids] 58))
    go_wp2
    go_region_law ((first
      | (refine step_append_any (by rfl) _ _ 22 (by rfl) C 58 j0 zeroNode 4 40 Tryz.underlying22 HJ.out.1 HJ.out.2.1 HJ.out.2.2.1 HJ.out.2.2.2 rfl (by decide) (.slice q1 n c1) n (nodeCells L) rfl (APH.out _ (by repeat' (first | exact Below.refl _ _ | apply Below.drew | (refine Below.alloc ?_ ?_ _) | exact Nat.le_refl _ | (simp; done)))) (some ⟨w1.heap.size, 0, none⟩) 1 1 [.int .i64 nd.kind, .string nd.text, .int .i64 nd.num, .int .i64 nd.kids] rfl rfl (fun _ => ⟨_, rfl, by first | exact CellsIn.at (HLC.out w1) | exact CellsIn.at (HLC.out w1.drew)⟩) (by intro u hu; simp at hu; rcases hu with rfl | rfl | rfl | rfl <;> rfl) HMX.out.1 HMX.out.2.1 (by have := HMX.out.2.2; simp; omega) ?_; intro p' cap' w7 hown hgrow hblk; have BW7 : Below w1.heap.size w1 _ := ((Below.refl w1.heap.size w1).alloc (Nat.le_refl _) (.cells #[.int .i64 nd.kind, .string nd.text, .int .i64 nd.num, .int .i64 nd.kids] 58)); have RN := Lib.hid hown; have GN := Lib.hid hgrow; have ⟨p7, f7⟩ : w7.cell? ⟨lb, 0, none⟩ = some (.slice q1 n c1) ∧ w7.frozen? ⟨lb, 0, none⟩ = false := (by have s := SSF.out _ (by first | exact BW7 | exact BW7.drew); exact ⟨hgrow.cell s.1 NLB.out, (World.frozen?_of_block (hgrow.block lb (Nat.lt_of_lt_of_le LBL.out BW7.size) NLB.out)).trans s.2.1⟩); clear hown hgrow hblk BW7)
      | fail))
    all_goals
      obtain ⟨h2, b12⟩ := H1.out.more HL1.out (by rw [← HN.out]; exact ROW1.out) (by first | exact ((Below.refl w1.heap.size w1).alloc (Nat.le_refl _) _) | exact ((Below.refl w1.heap.size w1).alloc (Nat.le_refl _) _).drew | exact ((Below.refl w1.heap.size w1).drew.alloc (Nat.le_refl _) _)) GN.out (x := nd) (nv := .slice p' (n + 1) cap') (by rw [← HN.out, HCELL.out]; exact RN.out)
      obtain ⟨w2, hw2⟩ : ∃ w2, w2 = w7.setCell ⟨lb, 0, none⟩ (.slice p' (n + 1) cap') := ⟨_, rfl⟩
      rw [← hw2] at h2 b12 ⊢
      obtain ⟨qk, ck, d4, hk, hq, hnck, hcmk, _⟩ := h2.tw.root (x := r) HR.out HRR.out
      obtain ⟨nk, hnk⟩ : ∃ nk, nk = (S.kids r).length := ⟨_, rfl⟩
      rw [← hnk] at d4 hk hq
      have hnk9 : nk ≤ 9223372036854775807 := by unfold maxLen at hcmk; omega
      have HNK := Lib.hid hnk
      have HKA := Lib.hid hk
      have HQ := Lib.hid hq
      have H2 := Lib.hid h2
      have F2 := Lib.hid (F1.out.trans (Frm.of_below (D := S.D) b12))
      clear h2 b12 hk hq hnck hcmk hnk hw2 p0 pf a0 a1 a2 a3 p0a pfa b0 b1 b2 b3 p7 f7 RN GN
      go_wp2
      go_loopw [23] (fun i wr => ∃ j : Nat, j ≤ nk ∧ i = .int .i64 j ∧ ∃ Lj, Hid (WR B C lb wb S Lj wr) ∧ Hid (Wr (L ++ [nd]) (flK g ((S.kids r).take j)) Lj) ∧ Hid (Frm S.D C w wr) ∧ Hid (Frm S.D C w2 wr)) (fun i _ => nk - (intOf i).toNat)
      case atStart => exact ⟨0, Nat.zero_le _, rfl, _, H2, by rw [List.take_zero]; exact Wr.nil _, F2, Frm.refl _ _ _⟩
      case round =>
        obtain ⟨j, hj, rfl, Lj, hW, hWr, hF, hF2⟩ := hrel
        by_cases hlt : j < nk
        · obtain ⟨gk, rfl, hgk⟩ := HQ.out (by omega)
          have ky := (KidsAt.frm (H2.out.tw) HKA.out (hF2.out.mono H2.out.bc fun _ _ hd => hd)).cellk j (by rw [← HNK.out]; exact hlt)
          obtain ⟨y, hy⟩ : ∃ y, y = (S.kids r).getD j 0 := ⟨_, rfl⟩
          rw [← hy] at ky
          have hym : y ∈ S.kids r := by
            rw [hy, List.getD_eq_getElem?_getD, List.getElem?_eq_getElem (by rw [← HNK.out]; exact hlt)]
            exact List.getElem_mem _
          have CALL := Lib.hid (IH.out y hym Lj wr hW.out (by
            have h1 := hWr.out.most
            rw [List.length_append, List.length_singleton, ← HN.out] at h1
            omega))
          have wv0 := cell_of_heap hW.out.wv 0
          simp only [List.getElem?_toArray, List.getElem?_cons_zero] at wv0
          have HY := Lib.hid hy
          unfold pv at CALL wv0
          clear hy hym
          go_wp2_with fail
          refine Calls.mono CALL.out ?_
          rintro e w3 ⟨rfl, L', k1, k2, k3⟩
          have e0 : (S.kids r).take (j + 1) = (S.kids r).take j ++ [y] := by
            rw [List.take_succ_eq_append_getElem (by rw [← HNK.out]; exact hlt)]
            have : (S.kids r).getD j 0 = (S.kids r)[j]'(by rw [← HNK.out]; exact hlt) := by rw [List.getD_eq_getElem?_getD, List.getElem?_eq_getElem (by rw [← HNK.out]; exact hlt)]; rfl
            rw [← this, ← HY.out]
          have K1 : Hid (Wr (L ++ [nd]) (flK g ((S.kids r).take (j + 1))) L') := by
            rw [e0]
            have : flK g ((S.kids r).take j ++ [y]) = flK g ((S.kids r).take j) ++ flatT (g y) := by simp [flK]
            rw [this]
            exact hWr.out.trans k1
          have K2 := Lib.hid k2
          have K3 := Lib.hid (hF.out.trans k3)
          have K4 := Lib.hid (hF2.out.trans k3)
          clear k1 k2 k3 e0 ky wv0 CALL
          go_wp2
          go_roundw
          case rel => exact ⟨j + 1, by omega, by go_num, L', K2, K1, K3, K4⟩
          case measure => simp [intOf]; omega
        · obtain rfl : j = nk := by omega
          have et : (S.kids r).take j = S.kids r := List.take_of_length_le (by rw [← HNK.out]; omega)
          rw [et] at hWr
          have E : Hid (WrP B C lb wb S L ([nd] ++ flK g (S.kids r)) w (.returned (.tuple #[])) wr) := ⟨rfl, Lj, (Wr.one nd (by rw [← HN.out]; omega)).trans hWr.out, hW.out, hF.out⟩
          clear hW hWr hF hF2 et hlt
          go_wp2
          first | go_end0 | skip
          exact (by have h := E.out; rw [HND.out] at h; exact h)
theorem res_any (B C lb wb : Nat) (S : SS) (tr : Nat → T) (hG : (S.gr tr).Ok) (rin : ∀ x, x ∈ S.dom → S.rep x ∈ S.dom) (rid : ∀ x, S.rep (S.rep x) = S.rep x) (x : Nat) (t : T) (h : Ex (S.gr tr) S.rep x t) : x ∈ S.dom → RsC B C lb wb S x t := by
  induction h with
  | var x hk =>
    intro hx
    have hz : S.kids (S.rep x) = [] := (hG.var _ (rin x hx) hk).2.2
    have := res_step B C lb wb S x (fun _ => vT 0) hx (rin x hx) (rid x) (by rw [hz]; simp)
    rw [hz] at this
    exact this
  | con x hk g hg ih =>
    intro hx
    exact res_step B C lb wb S x g hx (rin x hx) (rid x) fun k hm => ih k hm (hG.kin _ (rin x hx) k hm)
end Go.Proofs.YtncifeeinogcnaaGreatDoor
/- Resolve: what is written of a list of nodes. -/
set_option maxRecDepth 100000
namespace Go.Proofs.YtncifeeinogcnaaGreatDoor
open Go.RowKit Go.Lib Go.Maps Go.Proofs.TreeMath

def rs1 (s : Int → T) (n : Nd) : List Nd := if n.kind = 31 then flatT (s n.num) else [n]
/-- Nodes with what is put in the place of variables. -/
def rs (s : Int → T) (t : List Nd) : List Nd := t.flatMap (rs1 s)
theorem rs_append (s : Int → T) (a b : List Nd) : rs s (a ++ b) = rs s a ++ rs s b := by simp [rs]
theorem rs_flat (s : Int → T) (f : F) (h : wv f) : rs s f.flat = (sub s f).flat := by
  induction f with
  | nil => rfl
  | cons n k r hk hr =>
    obtain ⟨h1, h2, h3⟩ := h
    have e : rs s (F.cons n k r).flat = rs1 s n ++ (rs s k.flat ++ rs s r.flat) := by simp [rs, F.flat]
    rw [e, hr h3]
    by_cases hn : n.kind = 31
    · obtain ⟨_, b⟩ := h1 hn
      subst b
      simp only [sub, if_pos hn, F.flat, rs1, flatT, rs, List.flatMap_nil, List.nil_append, List.append_nil, List.cons_append]
    · rw [hk h2]
      simp only [sub, if_neg hn, F.flat, rs1, List.cons_append, List.nil_append]
theorem rs_tree (s : Int → T) (t : T) (h : wvT t) : rs s (flatT t) = flatT (subT s t) := by
  have h2 : wv (.cons t.1 t.2 .nil) := (wv_cons t .nil).2 ⟨h, trivial⟩
  have h3 : sub s (.cons t.1 t.2 .nil) = .cons (subT s t).1 (subT s t).2 .nil := by rw [sub_cons]; rfl
  show rs s (F.cons t.1 t.2 .nil).flat = (F.cons (subT s t).1 (subT s t).2 .nil).flat
  rw [rs_flat s _ h2, h3]
theorem okF_wv (f : F) : okF f → wv f := by
  induction f with
  | nil => intro _; trivial
  | cons n k r hk hr =>
    rintro ⟨h1, h2, h3⟩
    refine ⟨fun e => ?_, hk h2, hr h3⟩
    rcases h1 with ⟨_, a, _, b⟩ | ⟨a, _⟩
    · exact ⟨a, b⟩
    · rw [a] at e; exact absurd e (by decide)
/-- As much as there is room for was written of the first nodes. -/
structure Wq (i : Nat) (f L : List Nd) : Prop where
  fits : f.length ≤ 4000 → L = f
  over : 4000 < f.length → 4000 < L.length
  most : L.length ≤ 4001 + i
theorem Wq.nil : Wq 0 [] [] := ⟨fun _ => rfl, fun h => by simp at h, by simp⟩
theorem Wq.call {i : Nat} {f L g L2 : List Nd} (h : Wq i f L) (k : Wr L g L2) : Wq (i + 1) (f ++ g) L2 := by
  refine ⟨fun e => ?_, fun e => ?_, by have := h.most; have := k.most; omega⟩
  · rw [List.length_append] at e
    have h1 := h.fits (by omega)
    rw [h1] at k
    exact k.fits (by omega)
  · rw [List.length_append] at e
    by_cases hf : f.length ≤ 4000
    · have h1 := h.fits hf
      rw [h1] at k
      exact k.over (by omega)
    · have := h.over (by omega)
      exact k.over (by omega)
theorem Wq.app {i : Nat} {f L : List Nd} (h : Wq i f L) (x : Nd) : Wq (i + 1) (f ++ [x]) (L ++ [x]) := by
  refine ⟨fun e => ?_, fun e => ?_, by rw [List.length_append]; have := h.most; simp; omega⟩
  · rw [List.length_append] at e
    rw [h.fits (by omega)]
  · rw [List.length_append, List.length_singleton] at e ⊢
    by_cases hf : f.length ≤ 4000
    · rw [h.fits hf]; exact e
    · have := h.over (by omega); omega
theorem WR.below {B C lb wb : Nat} {S : SS} {L : List Nd} {w w' : World} (h : WR B C lb wb S L w) (b : Below w.heap.size w w') : WR B C lb wb S L w' := by
  obtain ⟨lv, hl, hrow⟩ := h.l
  have lt_of : ∀ {g : Nat} {o : Obj}, w.heap[g]? = some o → g < w.heap.size := fun hg => (Array.getElem?_eq_some_iff.1 hg).1
  exact ⟨h.tw.below (b.mono (Nat.le_trans h.bc h.cl.2.2)), h.bc, ⟨lv, (b.block lb (lt_of hl)).trans hl, World.ownsRow.keep hrow fun g hg => b.block g (World.ownsRow.there hrow hg).2⟩, (b.block wb (lt_of h.wv)).trans h.wv, ⟨h.cl.1, h.cl.2.1, Nat.le_trans h.cl.2.2 b.size⟩⟩
/-- What Resolve comes to. -/
inductive RvP (S : SS) (s : Int → T) (t : List Nd) (w : World) (e : Ending) (w' : World) : Prop
  | form (ht : tyB t = false) (he : e = .returned (.tuple #[.slice none 0 0, .int .i64 90])) (b : Below w.heap.size w w')
  | great (ht : tyB t = true) (hg : 4000 < (rs s t).length) (he : e = .returned (.tuple #[.slice none 0 0, .int .i64 92])) (fr : Frm S.D w.heap.size w w') (tw : TW w.heap.size w' S)
  | ok (ht : tyB t = true) (hg : (rs s t).length ≤ 4000) (v : Value) (he : e = .returned (.tuple #[v, .int .i64 0])) (own : w'.ownsRow w.heap.size 58 4 v (rs s t).length (nodeCells (rs s t))) (fr : Frm S.D w.heap.size w w') (tw : TW w.heap.size w' S)
theorem take_one (t : List Nd) (i : Nat) (hi : i < t.length) : t.take (i + 1) = t.take i ++ [t.getD i default] := by
  rw [List.take_succ_eq_append_getElem hi, List.getD_eq_getElem?_getD, List.getElem?_eq_getElem hi]; rfl
theorem rs_take (s : Int → T) (t : List Nd) (i : Nat) (hi : i < t.length) : rs s (t.take (i + 1)) = rs s (t.take i) ++ rs1 s (t.getD i default) := by
  rw [take_one t i hi, rs_append]; simp [rs]
theorem Wr.wq {L g : List Nd} {L2 : List Nd} {i : Nat} {s : Int → T} {t : List Nd} (hi : i < t.length) (h : Wq i (rs s (t.take i)) L) (k : Wr L g L2) (hg : rs1 s (t.getD i default) = g) : Wq (i + 1) (rs s (t.take (i + 1))) L2 := by
  rw [rs_take s t i hi, hg]; exact h.call k
theorem Wq.one {L : List Nd} {i : Nat} {s : Int → T} {t : List Nd} (hi : i < t.length) (h : Wq i (rs s (t.take i)) L) (n : Nd) (hg : rs1 s (t.getD i default) = [n]) : Wq (i + 1) (rs s (t.take (i + 1))) (L ++ [n]) := by
  rw [rs_take s t i hi, hg]; exact h.app n
theorem NodesAt.keep {w w' : World} {v : Value} {t : List Nd} (h : NodesAt w v t) (hz : w.heap.size ≤ w'.heap.size) (hk : ∀ b o m c, v = .slice (some ⟨b, o, none⟩) m c → b < w.heap.size → w'.heap[b]? = w.heap[b]?) : NodesAt w' v t := by
  obtain ⟨g1, p, cap, e, g2, g3, g4⟩ := h
  refine ⟨g1, p, cap, e, g2, g3, fun h0 => ?_⟩
  obtain ⟨b', off', rfl, gb, gc⟩ := g4 h0
  exact ⟨b', off', rfl, Nat.lt_of_lt_of_le gb hz, gc.kept (hk b' off' _ cap e gb)⟩
theorem CellsIn.nodeD {w : World} {b off : Nat} {ns : List Nd} (h : CellsIn w b off (nodeCells ns)) (i : Nat) (hi : i < ns.length) :
    w.cell? ⟨b, off + i * 4, none⟩ = some (.int .i64 (ns.getD i default).kind) ∧ w.cell? ⟨b, off + i * 4 + 1, none⟩ = some (.string (ns.getD i default).text) ∧ w.cell? ⟨b, off + i * 4 + 2, none⟩ = some (.int .i64 (ns.getD i default).num) ∧ w.cell? ⟨b, off + i * 4 + 3, none⟩ = some (.int .i64 (ns.getD i default).kids) := by
  have := h.node i hi
  exact this
end Go.Proofs.YtncifeeinogcnaaGreatDoor
