/- Texts of this seat, one behind the other: DfI, DaP, DaQ, LwD. -/
import Derived.Test.YtncifeeinogcnaaGreatDoorKn37
import Derived.Test.YtncifeeinogcnaaGreatDoorKn26
import Derived.Test.YtncifeeinogcnaaGreatDoorKn36
import Derived.Test.YtncifeeinogcnaaGreatDoorKn25
import Derived.Test.YtncifeeinogcnaaGreatDoorKn22
import Derived.BigQuiet
import Derived.Lib.QuietBelow
import Derived.Test.YtncifeeinogcnaaGreatDoorKn23
/- The document's SameSigs. -/
set_option maxRecDepth 100000
namespace Go.Proofs.YtncifeeinogcnaaGreatDoor
open Go.Shelf Go.RowKit Go.Lib Go.Sort Go.Maps Go.Proofs.TreeMath Go.Proofs.LexMath

def pr (s : Sg) : ByteArray × List Nd := (s.name, s.ty)
theorem sgs_cell {w : World} {v : Value} {sl : List Sg} (h : SgsAt w v sl) (i : Nat) (hi : i < sl.length) : ∃ b off c, v = .slice (some ⟨b, off, none⟩) sl.length c ∧ b < w.heap.size ∧ w.cell? ⟨b, off + i * 2, none⟩ = some (.string (sl.getD i default).name) ∧ w.cell? ⟨b, off + i * 2 + 1, none⟩ = some (sl.getD i default).v ∧ NodesAt w (sl.getD i default).v (sl.getD i default).ty := by
  obtain ⟨⟨_, p, c, rfl, _, _, h4⟩, hp⟩ := h
  obtain ⟨b, off, rfl, hb, hc⟩ := h4 (by omega)
  have h0 := hc _ _ (flat_get Sg.cells 2 (fun _ => rfl) sl i hi 0 (by omega))
  have h1 := hc _ _ (flat_get Sg.cells 2 (fun _ => rfl) sl i hi 1 (by omega))
  exact ⟨b, off, c, rfl, hb, h0, h1, hp _ (getD_mem sl i hi)⟩
theorem SgsAt.below {w w' : World} {v : Value} {sl : List Sg} (h : SgsAt w v sl) (b : Below w.heap.size w w') : SgsAt w' v sl := ⟨h.1.below b, fun s hs => (h.2 s hs).below b⟩
theorem SgsAt.form {w : World} {v : Value} {sl : List Sg} (h : SgsAt w v sl) : ∃ p c, v = .slice p sl.length c := by obtain ⟨⟨_, p, c, e, _⟩, _⟩ := h; exact ⟨p, c, e⟩
set_option maxHeartbeats 2000000 in
/-- Of the same names and types, SameSigs answers yes. -/
theorem samesigs_any (v1 v2 : Value) (A B : List Sg) (w : World) (h1 : SgsAt w v1 A) (h2 : SgsAt w v2 B) (he : A.map pr = B.map pr) (hn : A.length ≤ 1000000) (hs : ∀ s ∈ A, s.ty.length ≤ 1000000) : Calls Tryz.prog 30 #[v1, v2] w (BRw true w) := by
  have H1 := Lib.hid h1
  have H2 := Lib.hid h2
  have HS := Lib.hid hs
  obtain ⟨q1, c1, rfl⟩ := h1.form
  obtain ⟨q2, c2, rfl⟩ := h2.form
  obtain ⟨n, hnn⟩ : ∃ n, n = A.length := ⟨_, rfl⟩
  have HB : Hid (B.length = n) := Lib.hid (by have := congrArg List.length he; rw [List.length_map, List.length_map] at this; omega)
  have HN := Lib.hid hnn
  have GE := Lib.hid (fun i (hi : i < n) => show (A.getD i default).name = (B.getD i default).name ∧ (A.getD i default).ty = (B.getD i default).ty from by
    have e := congrArg (fun l => l[i]?) he
    simp only [List.getElem?_map] at e
    rw [List.getElem?_eq_getElem (by omega), List.getElem?_eq_getElem (by have := HB.out; omega)] at e
    simp only [Option.map_some, Option.some.injEq, pr, Prod.mk.injEq] at e
    rw [List.getD_eq_getElem?_getD, List.getD_eq_getElem?_getD, List.getElem?_eq_getElem (by omega), List.getElem?_eq_getElem (by have := HB.out; omega)]
    exact e)
  have E : Hid (∀ w', Below w.heap.size w w' → BRw true w (.returned (.bool true)) w') := Lib.hid fun w' b => ⟨rfl, b⟩
  have n6 : n ≤ 1000000 := by omega
  rw [← hnn, HB.out]
  generalize BRw true w = Z at E ⊢
  clear h1 h2 hnn he hn hs
  go_enter Tryz.func30, Tryz.ntmps30
  go_wp2
  go_loopw [5] (fun s5 wr => ∃ i : Nat, i ≤ n ∧ s5 = .int .i64 i ∧ Hid (Below w.heap.size w wr)) (fun s5 _ => n - (intOf s5).toNat)
  case atStart => exact ⟨0, Nat.zero_le _, rfl, Lib.hid (Below.refl _ _)⟩
  case round =>
    obtain ⟨wo, hwo⟩ : ∃ wo : World, wo = wr := ⟨_, rfl⟩
    subst hwo
    obtain ⟨i, hi, rfl, hB⟩ := hrel
    by_cases hlt : i < n
    · have k2 : ((i : Int) < (n : Int)) := by omega
      obtain ⟨b, off, c, e1, hb, x0, x1, na⟩ := sgs_cell H1.out i (by rw [← HN.out]; exact hlt)
      obtain ⟨b2, off2, c', e2, hb2, z0, z1, nb⟩ := sgs_cell H2.out i (by rw [HB.out]; exact hlt)
      simp only [Value.slice.injEq] at e1 e2
      obtain ⟨rfl, -, -⟩ := e1
      obtain ⟨rfl, -, -⟩ := e2
      obtain ⟨g1, g2⟩ := GE.out i hlt
      rw [← g1] at z0
      rw [← g2] at nb
      have hx4 := HS.out _ (getD_mem A i (by rw [← HN.out]; exact hlt))
      generalize (A.getD i default).name = nm at *
      generalize (A.getD i default).ty = ty at *
      generalize (A.getD i default).v = va at *
      generalize (B.getD i default).v = vb at *
      have SX := Lib.hid (na.below hB.out)
      have SY := Lib.hid (nb.below hB.out)
      have SAME := Lib.hid (fun W (hW : Below wo.heap.size wo W) => same_any _ _ ty ty W (SX.out.below hW) (SY.out.below hW) hx4)
      obtain ⟨p1, k1, rfl⟩ := nodes_form2 na
      obtain ⟨p2, k3, rfl⟩ := nodes_form2 nb
      have SS : Hid (∀ X, Below wo.heap.size wo X → X.cell? ⟨b, off + i * 2, none⟩ = some (.string nm) ∧ X.cell? ⟨b, off + i * 2 + 1, none⟩ = some (.slice p1 ty.length k1) ∧ X.cell? ⟨b2, off2 + i * 2, none⟩ = some (.string nm) ∧ X.cell? ⟨b2, off2 + i * 2 + 1, none⟩ = some (.slice p2 ty.length k3)) := Lib.hid fun X hX => by
        have hw := hB.out.trans (hX.mono hB.out.size)
        exact ⟨(hw.cell (p := ⟨b, off + i * 2, none⟩) hb).trans x0, (hw.cell (p := ⟨b, off + i * 2 + 1, none⟩) hb).trans x1, (hw.cell (p := ⟨b2, off2 + i * 2, none⟩) hb2).trans z0, (hw.cell (p := ⟨b2, off2 + i * 2 + 1, none⟩) hb2).trans z1⟩
      obtain ⟨a0, a1, a2, a3⟩ := SS.out wo (Below.refl _ _)
      obtain ⟨l, hl⟩ : ∃ l, l = ty.length := ⟨_, rfl⟩
      rw [← hl] at SAME SS a1 a3
      clear hl hx4 na nb x0 x1 z0 z1 hb hb2 SX SY g1 g2
      rw [decide_eq_true rfl] at SAME
      have SAME2 : Hid (∀ W, Below wo.heap.size wo W → Calls Tryz.prog 20 #[.slice p1 l k1, .slice p2 l k3] W fun e w' => e = .returned (.bool true) ∧ Below W.heap.size W w') := Lib.hid fun W hW => (SAME.out W hW).mono fun e w' h => by obtain ⟨b', rfl, rfl, b⟩ := h; exact And.intro rfl b
      clear SAME SS
      go_wp2
      have e0 := cell_regrown a0
      have e1 := cell_regrown a1
      have e2 := cell_regrown a2
      have e3 := cell_regrown a3
      clear a0 a1 a2 a3
      refine wp_region_quiet_below (by kernel_rfl) (by kernel_rfl) ?_
      repeat (go_big_quiet_step ((go_at_call 20; with_reducible exact Calls.regrown_of (SAME2.out _ (below_regrown wo _ _)))))
      refine wpQuiet_nil ?_
      intro _ hw'
      obtain ⟨⟨dq, osq⟩, hw''⟩ := hw'
      subst hw''
      have B5 := Lib.hid (hB.out.trans ((below_regrown wo dq osq).mono hB.out.size))
      clear e0 e1 e2 e3 SAME2
      go_wp2
      go_roundw
      case rel => exact ⟨i + 1, hlt, by go_num, B5⟩
      case measure => simp [intOf]; omega
    · obtain rfl : i = n := by omega
      have t1 : decide ((i : Int) < (i : Int)) = false := by simp
      have F := Lib.hid (E.out _ hB.out)
      clear hB
      go_wp2
      first | go_ret | skip
      exact F.out
end Go.Proofs.YtncifeeinogcnaaGreatDoor
/- Sigs. -/
set_option maxRecDepth 100000
namespace Go.Proofs.YtncifeeinogcnaaGreatDoor
open Go.Shelf Go.RowKit Go.Lib Go.Sort Go.Maps Go.Proofs.TreeMath Go.Proofs.LexMath

/-- What Sigs answers. -/
def SiP (ds : List Dt) (w : World) (e : Ending) (w' : World) : Prop := ∃ v k, e = .returned (.tuple #[v, .int .i64 k]) ∧ k = checkD ds ∧ Below w.heap.size w w' ∧
  ((k ≠ 0 ∧ v = .slice none 0 0) ∨ (k = 0 ∧ ∃ sl, SgsAt w' v sl ∧ sl.map (fun s => (s.name, s.ty)) = sigL (pairsOf ds)))
theorem checkD_right {ds : List Dt} (h : checkD ds = 0) : ds.length ≤ 60 ∧ ∀ d ∈ ds, rightD d = true := by
  unfold checkD at h
  split at h
  · simp at h
  · rename_i h1
    simp only [Bool.or_eq_true, decide_eq_true_eq, List.any_eq_true, not_or] at h1
    refine ⟨by omega, fun d hd => ?_⟩
    have := h1.2
    simp only [not_exists, not_and] at this
    simpa using this d hd
theorem flat_small (Ls : List (List Nd)) (h : ∀ t ∈ Ls, t.length ≤ 4000) : Ls.flatten.length ≤ Ls.length * 4000 := by
  induction Ls with
  | nil => simp
  | cons L Ls ih =>
    have := ih fun t ht => h t (List.mem_cons_of_mem _ ht)
    have := h L (List.mem_cons_self ..)
    rw [List.flatten_cons, List.length_append, List.length_cons]
    omega
theorem rightC_le {p : Int} {c : Ct} (h : rightC p c = true) : c.args.length ≤ 8 ∧ c.args.flatten.length ≤ 32000 := by
  unfold rightC at h
  simp only [Bool.and_eq_true, decide_eq_true_eq] at h
  have h8 := h.1.1.2
  have := flat_small c.args fun t ht => by
    have := List.all_eq_true.1 h.1.2 t ht
    unfold tyB at this
    simp only [Bool.and_eq_true, decide_eq_true_eq] at this
    exact this.1.1
  exact ⟨h8, by omega⟩
theorem rightD_cons {d : Dt} (h : rightD d = true) : ∀ c ∈ d.cons, rightC d.params c = true := by
  unfold rightD at h
  simp only [Bool.and_eq_true] at h
  exact List.all_eq_true.1 h.2
set_option maxHeartbeats 1000000 in
theorem dsigs_any (lv : Value) (ds : List Dt) (w : World) (h : DtsAt w lv ds) (hn : ds.length ≤ 1000000) (hs : ∀ d ∈ ds, TinyD d) : Calls Tryz.prog 28 #[lv] w (SiP ds w) := by
  have CK := Lib.hid (dcheck_any lv ds w h hn hs)
  unfold CdP at CK
  obtain ⟨lq, lc, rfl⟩ := h.form
  by_cases h0 : checkD ds = 0
  · obtain ⟨r60, rD⟩ := checkD_right h0
    have SG := Lib.hid (fun (w1 : World) (b1 : Below w.heap.size w w1) => search_gen (.slice lq ds.length lc) ds 68 #[.pointer (some ⟨w1.heap.size, 0, none⟩)] (enters 68 _ Tryz.func68 (by kernel_rfl) (by kernel_rfl)) (fun _ _ => false) (fun done W => ∃ q cq sl, RG w1 q cq sl done W) (w1.alloc (.cells #[.slice none 0 0] 45)) (by omega) (fun d hd => by have := (rightD_le (rD d hd)).2.2.2; omega)
      ⟨none, 0, [], box_keep _, heap_alloc_new _ _, World.ownsRow_nil _ _ _ _, rfl, fun s hs => by simp at hs⟩
      (Lib.hid fun done W ⟨q, cq, sl, hJ⟩ => (h.below b1).below hJ.be) (Lib.hid fun done W o ⟨q, cq, sl, hJ⟩ => ⟨q, cq, sl, hJ.below (box_keep o)⟩) (Lib.hid fun done d c W hd hc hp ⟨q, cq, sl, hJ⟩ => by
        have hl := hp.length_le
        rw [List.length_append, List.length_singleton] at hl
        have hmax := pairs_len ds fun d hd => (rightD_le (rD d hd)).2.2.2
        have hsl : sl.length = done.length := by
          have := congrArg List.length hJ.sgs
          simpa [sigL] using this
        have D := ((h.below b1).below hJ.be).2 d hd
        have rc := rightC_le (rightD_cons (rD d hd) c hc)
        exact sigs1_any w1 d c q cq sl done W D.form (D.2 c hc) (rightD_le (rD d hd)).1 (by have := (rightD_le (rD d hd)).2.1; omega) (by omega) (by omega) (by omega) hJ))
    have POST : Hid (∀ w1 e w', Below w.heap.size w w1 → SrP (fun _ _ => false) ds (fun done W => ∃ q cq sl, RG w1 q cq sl done W) e w' → e = .returned (.tuple #[.int .i64 0, .int .i64 0, .bool false]) ∧ ∃ q k cq, w'.cell? ⟨w1.heap.size, 0, none⟩ = some (.slice q k cq) ∧ SiP ds w (.returned (.tuple #[.slice q k cq, .int .i64 0])) w') := Lib.hid (by
      rintro w1 e w' hb ⟨done, ⟨q, cq, sl, hJ⟩, ⟨i, j, hf, _⟩ | ⟨_, rfl, rfl⟩⟩
      · rw [findD_false] at hf; simp at hf
      · refine ⟨rfl, q, sl.length, cq, Lib.cell_of_heap hJ.box 0, _, 0, rfl, h0.symm, hb.trans (hJ.be.mono hb.size), .inr ⟨rfl, sl, ⟨SliceAt.of_owns hJ.row, fun s hs => (hJ.pts s hs).1⟩, hJ.sgs⟩⟩)
    rw [h0] at CK
    obtain ⟨n, hnn⟩ : ∃ n, n = ds.length := ⟨_, rfl⟩
    rw [← hnn] at CK SG ⊢
    generalize SiP ds w = Z at POST ⊢
    generalize hZ1 : (fun w1 => SrP (fun _ _ => false) ds (fun done W => ∃ q cq sl, RG w1 q cq sl done W)) = Z1
    have SG2 : Hid (∀ (w1 : World), Below w.heap.size w w1 → Calls Tryz.prog 67 #[.slice lq n lc, .func (.func 68) #[] #[.pointer (some ⟨w1.heap.size, 0, none⟩)]] (w1.alloc (.cells #[.slice none 0 0] 45)) (Z1 w1)) := by subst hZ1; exact SG
    have PO2 : Hid (∀ w1 e w', Below w.heap.size w w1 → Z1 w1 e w' → e = .returned (.tuple #[.int .i64 0, .int .i64 0, .bool false]) ∧ ∃ q k cq, w'.cell? ⟨w1.heap.size, 0, none⟩ = some (.slice q k cq) ∧ Z (.returned (.tuple #[.slice q k cq, .int .i64 0])) w') := by subst hZ1; exact POST
    clear h hn hs r60 rD SG POST hZ1 h0 hnn
    go_enter Tryz.func28, Tryz.ntmps28
    go_wp2_with fail
    refine CK.out.mono ?_
    rintro e w1 ⟨rfl, b1⟩
    have B1 := Lib.hid b1
    have C2 := Lib.hid (SG2.out w1 b1)
    clear b1 CK SG2
    go_wp2_with fail
    refine C2.out.mono ?_
    intro e w3 h3
    obtain ⟨rfl, q, k, cq, c0, hz⟩ := PO2.out w1 e w3 B1.out h3
    have F := Lib.hid hz
    clear h3 hz C2 PO2
    go_wp2
    first | go_ret2 | skip
    exact F.out
  · have E : Hid (∀ w', Below w.heap.size w w' → SiP ds w (.returned (.tuple #[.slice none 0 0, .int .i64 (checkD ds)])) w') := Lib.hid fun w' b => ⟨_, _, rfl, rfl, b, .inl ⟨h0, rfl⟩⟩
    have KN : ∃ k, checkD ds = k ∧ (k = 100 ∨ k = 101 ∨ k = 102) := by
      refine ⟨_, rfl, ?_⟩
      unfold checkD at h0 ⊢
      split
      · exact .inl rfl
      · split
        · exact .inr (.inl rfl)
        · split
          · exact .inr (.inr rfl)
          · rename_i a b c
            rw [if_neg a, if_neg b, if_neg c] at h0
            exact absurd rfl h0
    obtain ⟨k, hk, hk3⟩ := KN
    obtain ⟨n, hnn⟩ : ∃ n, n = ds.length := ⟨_, rfl⟩
    rw [hk] at CK E
    rw [← hnn] at CK ⊢
    generalize SiP ds w = Z at E ⊢
    clear h hn hs hk h0 hnn
    rcases hk3 with rfl | rfl | rfl
    all_goals
      go_enter Tryz.func28, Tryz.ntmps28
      go_wp2_with fail
      refine CK.out.mono ?_
      rintro e w1 ⟨rfl, b1⟩
      have F := Lib.hid (E.out w1 b1)
      clear b1 CK E
      go_wp2
      first | go_ret2 | skip
      exact F.out
end Go.Proofs.YtncifeeinogcnaaGreatDoor
/- The law's variable and list. -/
set_option maxRecDepth 100000
namespace Go.Proofs.YtncifeeinogcnaaGreatDoor
open Go.Shelf Go.RowKit Go.Lib Go.Sort Go.Maps Go.Proofs.TreeMath Go.Proofs.LexMath

theorem lit_slice (w : World) (cs : Array Value) (t : TypeId) (size n : Nat) (hs : cs.size = n * size) (hm : n ≤ maxLen) : SliceAt (w.alloc (.cells cs t)) size (.slice (some ⟨w.heap.size, 0, none⟩) n n) n cs.toList :=
  ⟨by simpa using hs, _, n, rfl, Nat.le_refl _, hm, fun _ => ⟨_, 0, rfl, by simp, lit_at w cs t⟩⟩
theorem variable_any1 (p : Int) (w : World) : Calls Tryz.prog 100 #[.int .i64 p] w (NRet w [vN p]) := by
  have RW : Hid (NodesAt (w.alloc (.cells #[.int .i64 31, .string ⟨#[]⟩, .int .i64 p, .int .i64 0] 58)) (.slice (some ⟨w.heap.size, 0, none⟩) 1 1) [vN p]) := Lib.hid (lit_slice w _ 58 4 1 rfl (by decide))
  go_enter Tryz.func100, Tryz.ntmps100
  go_wp2
  first | go_ret | skip
  exact ⟨_, rfl, RW.out, box_keep _⟩
def sLst : ByteArray := ⟨#[76, 105, 115, 116]⟩
def sNil : ByteArray := ⟨#[78, 105, 108]⟩
def sCns : ByteArray := ⟨#[67, 111, 110, 115]⟩
/-- The chapter's example. -/
def lstD (a b c : Value) : List Dt := [⟨sLst, 1, c, [⟨sNil, a, []⟩, ⟨sCns, b, [[vN 0], [⟨32, sLst, 0, 1⟩, vN 0]]⟩]⟩]
def LstP (w : World) (e : Ending) (w' : World) : Prop := ∃ v a b c, e = .returned v ∧ DtsAt w' v (lstD a b c) ∧ Below w.heap.size w w'
theorem list_any (w : World) : Calls Tryz.prog 60 #[] w (LstP w) := by
  have V := Lib.hid (fun W => variable_any1 0 W)
  have N2 : Hid (NodesAt (w.alloc (.cells #[.int .i64 32, .string sLst, .int .i64 0, .int .i64 1, .int .i64 31, .string ⟨#[]⟩, .int .i64 0, .int .i64 0] 58)) (.slice (some ⟨w.heap.size, 0, none⟩) 2 2) [⟨32, sLst, 0, 1⟩, vN 0]) := Lib.hid (lit_slice w _ 58 4 2 rfl (by decide))
  have B1 := Lib.hid (box_keep (W := w) (.cells #[.int .i64 32, .string sLst, .int .i64 0, .int .i64 1, .int .i64 31, .string ⟨#[]⟩, .int .i64 0, .int .i64 0] 58))
  go_enter Tryz.func60, Tryz.ntmps60
  go_wp2_with fail
  refine (V.out _).mono ?_
  rintro e w3 ⟨v1, rfl, n1, b3⟩
  obtain ⟨q1, c1, rfl⟩ := nodes_form' n1
  have NA := Lib.hid n1
  have B3 := Lib.hid b3
  clear n1 b3
  go_wp2
  first | go_ret | skip
  have M2 := N2.out.below B3.out
  have BC := B1.out.trans (B3.out.mono B1.out.size)
  have L1 := lit_slice w3 #[.slice q1 1 c1, .slice (some ⟨w.heap.size, 0, none⟩) 2 2] 22 1 2 rfl (by decide)
  have LL : ListsAt (w3.alloc (.cells #[.slice q1 1 c1, .slice (some ⟨w.heap.size, 0, none⟩) 2 2] 22)) (.slice (some ⟨w3.heap.size, 0, none⟩) 2 2) [[vN 0], [⟨32, sLst, 0, 1⟩, vN 0]] := ⟨_, L1, fun i hi => by
    match i, hi with
    | 0, _ => exact NA.out.below (box_keep _)
    | 1, _ => exact M2.below (box_keep _)⟩
  obtain ⟨W1, hW1⟩ : ∃ W1, W1 = w3.alloc (.cells #[.slice q1 1 c1, .slice (some ⟨w.heap.size, 0, none⟩) 2 2] 22) := ⟨_, rfl⟩
  have z1 : W1.heap.size = w3.heap.size + 1 := by rw [hW1]; simp
  have k1 : Below w3.heap.size w3 W1 := by rw [hW1]; exact box_keep _
  rw [← hW1] at LL
  have L2 := lit_slice W1 #[.string sNil, .slice none 0 0, .string sCns, .slice (some ⟨w3.heap.size, 0, none⟩) 2 2] 112 2 2 rfl (by decide)
  obtain ⟨W2, hW2⟩ : ∃ W2, W2 = W1.alloc (.cells #[.string sNil, .slice none 0 0, .string sCns, .slice (some ⟨w3.heap.size, 0, none⟩) 2 2] 112) := ⟨_, rfl⟩
  have z2 : W2.heap.size = w3.heap.size + 2 := by rw [hW2]; simp [z1]
  have k2 : Below W1.heap.size W1 W2 := by rw [hW2]; exact box_keep _
  rw [← hW2, z1] at L2
  have L3 := lit_slice W2 #[.string sLst, .int .i64 1, .slice (some ⟨w3.heap.size + 1, 0, none⟩) 2 2] 110 3 1 rfl (by decide)
  have k3 := box_keep (W := W2) (.cells #[.string sLst, .int .i64 1, .slice (some ⟨w3.heap.size + 1, 0, none⟩) 2 2] 110)
  rw [z2] at L3
  have CT : CtsAt W2 (.slice (some ⟨w3.heap.size + 1, 0, none⟩) 2 2) [⟨sNil, .slice none 0 0, []⟩, ⟨sCns, .slice (some ⟨w3.heap.size, 0, none⟩) 2 2, [[vN 0], [⟨32, sLst, 0, 1⟩, vN 0]]⟩] := ⟨L2, fun c hc => by
    simp only [List.mem_cons, List.not_mem_nil, or_false] at hc
    rcases hc with rfl | rfl
    · exact ⟨[], ⟨rfl, _, _, rfl, Nat.le_refl _, by unfold maxLen; omega, fun h => absurd rfl h⟩, fun i hi => absurd hi (Nat.not_lt_zero _)⟩
    · exact LL.below k2⟩
  have DT : DtsAt (W2.alloc (.cells #[.string sLst, .int .i64 1, .slice (some ⟨w3.heap.size + 1, 0, none⟩) 2 2] 110)) (.slice (some ⟨w3.heap.size + 2, 0, none⟩) 1 1) (lstD (.slice none 0 0) (.slice (some ⟨w3.heap.size, 0, none⟩) 2 2) (.slice (some ⟨w3.heap.size + 1, 0, none⟩) 2 2)) := ⟨L3, fun d hd => by
    simp only [lstD, List.mem_cons, List.not_mem_nil, or_false] at hd
    subst hd
    exact CT.below k3⟩
  subst hW2 hW1
  exact ⟨_, _, _, _, rfl, DT, ((BC.trans (k1.mono BC.size)).trans (k2.mono (Nat.le_trans BC.size k1.size))).trans (k3.mono (Nat.le_trans (Nat.le_trans BC.size k1.size) k2.size))⟩
theorem lst_check (a b c : Value) : checkD (lstD a b c) = 0 := by kernel_rfl
theorem lst_tiny (a b c : Value) : ∀ d ∈ lstD a b c, TinyD d := by
  intro d hd
  simp only [lstD, List.mem_cons, List.not_mem_nil, or_false] at hd
  subst hd
  refine ⟨by simp [sLst, ByteArray.size], by simp, fun c hc => ?_⟩
  simp only [List.mem_cons, List.not_mem_nil, or_false] at hc
  rcases hc with rfl | rfl
  · exact ⟨by simp [sNil, ByteArray.size], by simp, fun t ht => by simp at ht⟩
  · refine ⟨by simp [sCns, ByteArray.size], by simp, fun t ht => ?_⟩
    simp only [List.mem_cons, List.not_mem_nil, or_false] at ht
    rcases ht with rfl | rfl
    · exact ⟨by simp, fun n hn => by simp at hn; subst hn; simp [vN, ByteArray.size]⟩
    · refine ⟨by simp, fun n hn => ?_⟩
      simp only [List.mem_cons, List.not_mem_nil, or_false] at hn
      rcases hn with rfl | rfl
      · simp [sLst, ByteArray.size]
      · simp [vN, ByteArray.size]
end Go.Proofs.YtncifeeinogcnaaGreatDoor
/- What Unify comes to, as a relation that knows its answer. -/
set_option maxRecDepth 100000
namespace Go.Proofs.YtncifeeinogcnaaGreatDoor
open Go.RowKit Go.Lib Go.Maps Go.Proofs.TreeMath

/-- What Unify comes to, its error and its bindings. -/
inductive UyOut (la lb : List Nd) (c : Int) (l : List (Int × List Nd)) : Prop
  | form (hb : tyB la = false ∨ tyB lb = false) (hc : c = 90) (hl : l = [])
  | clash (ta : tyB la = true) (tb : tyB lb = true) (na nb : Nd) (ka kb : F) (ea : la = na :: ka.flat) (eb : lb = nb :: kb.flat) (oa : okF (.cons na ka .nil)) (ob : okF (.cons nb kb .nil)) (hn : ∀ s, ¬ Un [((na, ka), (nb, kb))] s) (hc : c = 91) (hl : l = [])
  | great (ta : tyB la = true) (tb : tyB lb = true) (na nb : Nd) (ka kb : F) (ea : la = na :: ka.flat) (eb : lb = nb :: kb.flat) (oa : okF (.cons na ka .nil)) (ob : okF (.cons nb kb .nil)) (s : Int → T) (hs : Mgu [((na, ka), (nb, kb))] s) (v : Int) (hv : 4000 < szT (s v)) (hc : c = 92) (hl : l = [])
  | ok (ta : tyB la = true) (tb : tyB lb = true) (na nb : Nd) (ka kb : F) (ea : la = na :: ka.flat) (eb : lb = nb :: kb.flat) (oa : okF (.cons na ka .nil)) (ob : okF (.cons nb kb .nil)) (s : Int → T) (hs : Mgu [((na, ka), (nb, kb))] s) (ks : List Int) (hp : ks.Pairwise (· < ·)) (hk : ∀ v, s v ≠ vT v → v ∈ ks) (kr : ∀ v ∈ ks, 0 ≤ v ∧ v ≤ 1048576) (hz : ∀ v, szT (s v) ≤ 4000) (hn : ks.length ≤ 8000) (hc : c = 0) (hl : l = bindsOf s ks)
end Go.Proofs.YtncifeeinogcnaaGreatDoor
