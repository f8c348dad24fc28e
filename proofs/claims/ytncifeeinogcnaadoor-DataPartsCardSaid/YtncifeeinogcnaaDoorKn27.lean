/- Texts of this seat, one behind the other: DaP, Same. -/
import Derived.Test.YtncifeeinogcnaaDoorKn26
import Derived.Test.YtncifeeinogcnaaDoorKn03
/- Sigs. -/
set_option maxRecDepth 100000
namespace Go.Proofs.YtncifeeinogcnaaDoor
open Go.Shelf Go.RowKit Go.Lib Go.Sort Go.Maps Go.Proofs.TreeMath Go.Proofs.LexMath

/-- What Sigs answers. -/
def SiP (ds : List Dt) (w : World) (e : Ending) (w' : World) : Prop := ∃ v k, e = .returned (.tuple #[v, .int .i64 k]) ∧ k = checkD ds ∧ Below w.heap.size w w' ∧
  ((k ≠ 0 ∧ v = .slice none 0 0) ∨ (k = 0 ∧ ∃ sl, SgsAt w' v sl ∧ sl.map (fun s => (s.name, s.ty)) = sigL (pairsOf ds)))
theorem checkD_right {ds : List Dt} (h : checkD ds = 0) : ds.length ≤ 60 ∧ ∀ d ∈ ds, rightD d = true := by
  unfold checkD at h
  split at h
  · simp at h
  · rename_i h1
    simp only [Bool.or_eq_true, decide_eq_true_eq, List.any_eq_true, not_or] at h1
    refine ⟨by omega, fun d hd => ?_⟩
    have := h1.2
    simp only [not_exists, not_and] at this
    simpa using this d hd
theorem flat_small (Ls : List (List Nd)) (h : ∀ t ∈ Ls, t.length ≤ 4000) : Ls.flatten.length ≤ Ls.length * 4000 := by
  induction Ls with
  | nil => simp
  | cons L Ls ih =>
    have := ih fun t ht => h t (List.mem_cons_of_mem _ ht)
    have := h L (List.mem_cons_self ..)
    rw [List.flatten_cons, List.length_append, List.length_cons]
    omega
theorem rightC_le {p : Int} {c : Ct} (h : rightC p c = true) : c.args.length ≤ 8 ∧ c.args.flatten.length ≤ 32000 := by
  unfold rightC at h
  simp only [Bool.and_eq_true, decide_eq_true_eq] at h
  have h8 := h.1.1.2
  have := flat_small c.args fun t ht => by
    have := List.all_eq_true.1 h.1.2 t ht
    unfold tyB at this
    simp only [Bool.and_eq_true, decide_eq_true_eq] at this
    exact this.1.1
  exact ⟨h8, by omega⟩
theorem rightD_cons {d : Dt} (h : rightD d = true) : ∀ c ∈ d.cons, rightC d.params c = true := by
  unfold rightD at h
  simp only [Bool.and_eq_true] at h
  exact List.all_eq_true.1 h.2
set_option maxHeartbeats 1000000 in
theorem dsigs_any (lv : Value) (ds : List Dt) (w : World) (h : DtsAt w lv ds) (hn : ds.length ≤ 1000000) (hs : ∀ d ∈ ds, TinyD d) : Calls Tryd.prog 18 #[lv] w (SiP ds w) := by
  have CK := Lib.hid (dcheck_any lv ds w h hn hs)
  unfold CdP at CK
  obtain ⟨lq, lc, rfl⟩ := h.form
  by_cases h0 : checkD ds = 0
  · obtain ⟨r60, rD⟩ := checkD_right h0
    have SG := Lib.hid (fun (w1 : World) (b1 : Below w.heap.size w w1) => search_gen (.slice lq ds.length lc) ds 32 #[.pointer (some ⟨w1.heap.size, 0, none⟩)] (enters 32 _ Tryd.func32 (by kernel_rfl) (by kernel_rfl)) (fun _ _ => false) (fun done W => ∃ q cq sl, RG w1 q cq sl done W) (w1.alloc (.cells #[.slice none 0 0] 48)) (by omega) (fun d hd => by have := (rightD_le (rD d hd)).2.2.2; omega)
      ⟨none, 0, [], box_keep _, heap_alloc_new _ _, World.ownsRow_nil _ _ _ _, rfl, fun s hs => by simp at hs⟩
      (Lib.hid fun done W ⟨q, cq, sl, hJ⟩ => (h.below b1).below hJ.be) (Lib.hid fun done W o ⟨q, cq, sl, hJ⟩ => ⟨q, cq, sl, hJ.below (box_keep o)⟩) (Lib.hid fun done d c W hd hc hp ⟨q, cq, sl, hJ⟩ => by
        have hl := hp.length_le
        rw [List.length_append, List.length_singleton] at hl
        have hmax := pairs_len ds fun d hd => (rightD_le (rD d hd)).2.2.2
        have hsl : sl.length = done.length := by
          have := congrArg List.length hJ.sgs
          simpa [sigL] using this
        have D := ((h.below b1).below hJ.be).2 d hd
        have rc := rightC_le (rightD_cons (rD d hd) c hc)
        exact sigs1_any w1 d c q cq sl done W D.form (D.2 c hc) (rightD_le (rD d hd)).1 (by have := (rightD_le (rD d hd)).2.1; omega) (by omega) (by omega) (by omega) hJ))
    have POST : Hid (∀ w1 e w', Below w.heap.size w w1 → SrP (fun _ _ => false) ds (fun done W => ∃ q cq sl, RG w1 q cq sl done W) e w' → e = .returned (.tuple #[.int .i64 0, .int .i64 0, .bool false]) ∧ ∃ q k cq, w'.cell? ⟨w1.heap.size, 0, none⟩ = some (.slice q k cq) ∧ SiP ds w (.returned (.tuple #[.slice q k cq, .int .i64 0])) w') := Lib.hid (by
      rintro w1 e w' hb ⟨done, ⟨q, cq, sl, hJ⟩, ⟨i, j, hf, _⟩ | ⟨_, rfl, rfl⟩⟩
      · rw [findD_false] at hf; simp at hf
      · refine ⟨rfl, q, sl.length, cq, Lib.cell_of_heap hJ.box 0, _, 0, rfl, h0.symm, hb.trans (hJ.be.mono hb.size), .inr ⟨rfl, sl, ⟨SliceAt.of_owns hJ.row, fun s hs => (hJ.pts s hs).1⟩, hJ.sgs⟩⟩)
    rw [h0] at CK
    obtain ⟨n, hnn⟩ : ∃ n, n = ds.length := ⟨_, rfl⟩
    rw [← hnn] at CK SG ⊢
    generalize SiP ds w = Z at POST ⊢
    generalize hZ1 : (fun w1 => SrP (fun _ _ => false) ds (fun done W => ∃ q cq sl, RG w1 q cq sl done W)) = Z1
    have SG2 : Hid (∀ (w1 : World), Below w.heap.size w w1 → Calls Tryd.prog 23 #[.slice lq n lc, .func (.func 32) #[] #[.pointer (some ⟨w1.heap.size, 0, none⟩)]] (w1.alloc (.cells #[.slice none 0 0] 48)) (Z1 w1)) := by subst hZ1; exact SG
    have PO2 : Hid (∀ w1 e w', Below w.heap.size w w1 → Z1 w1 e w' → e = .returned (.tuple #[.int .i64 0, .int .i64 0, .bool false]) ∧ ∃ q k cq, w'.cell? ⟨w1.heap.size, 0, none⟩ = some (.slice q k cq) ∧ Z (.returned (.tuple #[.slice q k cq, .int .i64 0])) w') := by subst hZ1; exact POST
    clear h hn hs r60 rD SG POST hZ1 h0 hnn
    go_enter Tryd.func18, Tryd.ntmps18
    go_wp2_with fail
    refine CK.out.mono ?_
    rintro e w1 ⟨rfl, b1⟩
    have B1 := Lib.hid b1
    have C2 := Lib.hid (SG2.out w1 b1)
    clear b1 CK SG2
    go_wp2_with fail
    refine C2.out.mono ?_
    intro e w3 h3
    obtain ⟨rfl, q, k, cq, c0, hz⟩ := PO2.out w1 e w3 B1.out h3
    have F := Lib.hid hz
    clear h3 hz C2 PO2
    go_wp2
    first | go_ret2 | skip
    exact F.out
  · have E : Hid (∀ w', Below w.heap.size w w' → SiP ds w (.returned (.tuple #[.slice none 0 0, .int .i64 (checkD ds)])) w') := Lib.hid fun w' b => ⟨_, _, rfl, rfl, b, .inl ⟨h0, rfl⟩⟩
    have KN : ∃ k, checkD ds = k ∧ (k = 100 ∨ k = 101 ∨ k = 102) := by
      refine ⟨_, rfl, ?_⟩
      unfold checkD at h0 ⊢
      split
      · exact .inl rfl
      · split
        · exact .inr (.inl rfl)
        · split
          · exact .inr (.inr rfl)
          · rename_i a b c
            rw [if_neg a, if_neg b, if_neg c] at h0
            exact absurd rfl h0
    obtain ⟨k, hk, hk3⟩ := KN
    obtain ⟨n, hnn⟩ : ∃ n, n = ds.length := ⟨_, rfl⟩
    rw [hk] at CK E
    rw [← hnn] at CK ⊢
    generalize SiP ds w = Z at E ⊢
    clear h hn hs hk h0 hnn
    rcases hk3 with rfl | rfl | rfl
    all_goals
      go_enter Tryd.func18, Tryd.ntmps18
      go_wp2_with fail
      refine CK.out.mono ?_
      rintro e w1 ⟨rfl, b1⟩
      have F := Lib.hid (E.out w1 b1)
      clear b1 CK E
      go_wp2
      first | go_ret2 | skip
      exact F.out
end Go.Proofs.YtncifeeinogcnaaDoor
/- The comparing functions: Row, Same. -/
set_option maxRecDepth 100000
namespace Go.Proofs.YtncifeeinogcnaaDoor
open Go.RowKit Go.Proofs.TreeMath
/-- A function that returns a bool. -/
def BRet (W : World) (b : Bool) (e : Ending) (w' : World) : Prop := ∃ b', b' = b ∧ e = .returned (.bool b') ∧ Below W.heap.size W w'
theorem same_far (p q : Option Addr) (n m c d : Nat) (w : World) (h : (n != m) = true) : Calls Tryd.prog 17 #[.slice p n c, .slice q m d] w (BRet w false) := by
  have h2 : ((n : Int) != (m : Int)) = true := by simp at h ⊢; omega
  have h3 : ((n : Int) == (m : Int)) = false := by simp at h ⊢; omega
  have h4 : (n == m) = false := by simp at h ⊢; omega
  go_enter Tryd.func17, Tryd.ntmps17
  go_wp2
  go_ret
  exact ⟨_, rfl, rfl, Below.refl _ _⟩
theorem same_zero (p q : Option Addr) (c d : Nat) (w : World) : Calls Tryd.prog 17 #[.slice p 0 c, .slice q 0 d] w (BRet w true) := by
  go_enter Tryd.func17, Tryd.ntmps17
  go_wp2
  refine wp_loop_rounds 1 ?_
  rw [rounds_succ]
  go_wp2
  go_ret
  exact ⟨_, rfl, rfl, Below.refl _ _⟩
theorem list_eq_pre {α : Type} (d : α) (xs ys : List α) (hl : xs.length = ys.length) (h : ∀ i, i < xs.length → xs.getD i d = ys.getD i d) : xs = ys := by
  refine List.ext_getElem hl fun i h1 h2 => ?_
  have := h i h1
  simpa [List.getD_eq_getElem?_getD, List.getElem?_eq_getElem h1, List.getElem?_eq_getElem h2] using this
set_option maxHeartbeats 2000000 in
theorem same_any' (b off b2 off2 c d n : Nat) (xs ys : List Nd) (w : World) (hx : Hid (xs.length = n)) (hy : Hid (ys.length = n)) (h1 : Hid (CellsIn w b off (nodeCells xs))) (h2 : Hid (CellsIn w b2 off2 (nodeCells ys))) (hb : b < w.heap.size) (hb2 : b2 < w.heap.size) (hn : n ≤ 1000000) (hn0 : 0 < n) :
    Calls Tryd.prog 17 #[.slice (some ⟨b, off, none⟩) n c, .slice (some ⟨b2, off2, none⟩) n d] w (BRet w (decide (xs = ys))) := by
  go_enter Tryd.func17, Tryd.ntmps17
  go_wp2
  go_loopw [5] (fun i wr => ∃ k : Nat, k ≤ n ∧ i = .int .i64 k ∧ Below w.heap.size w wr ∧ ∀ j, j < k → xs.getD j default = ys.getD j default) (fun i _ => n - (intOf i).toNat)
  case atStart => exact ⟨0, Nat.zero_le _, rfl, Below.refl _ _, fun j hj => by omega⟩
  case round =>
    obtain ⟨k, hk, rfl, hbel, hpre⟩ := hrel
    have HP := Lib.hid hpre
    clear hpre
    by_cases hlt : k < n
    · obtain ⟨a1, a2, a3, a4⟩ := h1.out.node k (by rw [hx.out]; exact hlt)
      obtain ⟨e1, e2, e3, e4⟩ := h2.out.node k (by rw [hy.out]; exact hlt)
      have a1 := (hbel.cell (p := ⟨b, off + k * 4, none⟩) hb).trans a1
      have a2 := (hbel.cell (p := ⟨b, off + k * 4 + 1, none⟩) hb).trans a2
      have a3 := (hbel.cell (p := ⟨b, off + k * 4 + 2, none⟩) hb).trans a3
      have a4 := (hbel.cell (p := ⟨b, off + k * 4 + 3, none⟩) hb).trans a4
      have e1 := (hbel.cell (p := ⟨b2, off2 + k * 4, none⟩) hb2).trans e1
      have e2 := (hbel.cell (p := ⟨b2, off2 + k * 4 + 1, none⟩) hb2).trans e2
      have e3 := (hbel.cell (p := ⟨b2, off2 + k * 4 + 2, none⟩) hb2).trans e3
      have e4 := (hbel.cell (p := ⟨b2, off2 + k * 4 + 3, none⟩) hb2).trans e4
      obtain ⟨x, hxk⟩ : ∃ x, x = xs.getD k default := ⟨_, rfl⟩
      obtain ⟨y, hyk⟩ : ∃ y, y = ys.getD k default := ⟨_, rfl⟩
      rw [← hxk] at a1 a2 a3 a4
      rw [← hyk] at e1 e2 e3 e4
      have HX := Lib.hid hxk
      have HY := Lib.hid hyk
      clear hxk hyk
      obtain ⟨x1, x2, x3, x4⟩ := x
      obtain ⟨y1, y2, y3, y4⟩ := y
      simp only at a1 a2 a3 a4 e1 e2 e3 e4
      by_cases g1 : x1 = y1
      · subst g1
        by_cases g2 : x2 = y2
        · subst g2
          by_cases g3 : x3 = y3
          · subst g3
            by_cases g4 : x4 = y4
            · subst g4
              go_wp2
              go_region
              go_wp2
              go_roundw
              case rel => exact ⟨k + 1, by omega, by go_num, hbel.drew, fun j hj => by
                rcases Nat.lt_or_ge j k with h | h
                · exact HP.out j h
                · rw [show j = k by omega, ← HX.out, ← HY.out]⟩
              case measure => simp [intOf]; omega
            · have f1 : (x4 == y4) = false := by simpa using g4
              have f2 : (x4 != y4) = true := by simpa using g4
              go_wp2
              go_region
              go_wp2
              go_ret
              refine ⟨_, ?_, rfl, hbel.drew⟩
              symm
              rw [decide_eq_false_iff_not]
              intro h
              apply g4
              have h9 := HX.out.trans ((congrArg (fun l => List.getD l k default) h).trans HY.out.symm)
              exact congrArg Nd.kids h9
          · have f1 : (x3 == y3) = false := by simpa using g3
            have f2 : (x3 != y3) = true := by simpa using g3
            go_wp2
            go_region
            go_wp2
            go_ret
            refine ⟨_, ?_, rfl, hbel.drew⟩
            symm
            rw [decide_eq_false_iff_not]
            intro h
            apply g3
            have h9 := HX.out.trans ((congrArg (fun l => List.getD l k default) h).trans HY.out.symm)
            exact congrArg Nd.num h9
        · have f3 : (x2.toList == y2.toList) = false := by
            rw [beq_eq_false_iff_ne]
            intro h
            exact g2 (Go.WideShapes.bytes_inj (by simpa [ByteArray.toList_eq] using h))
          go_wp2
          go_region
          go_wp2
          go_ret
          refine ⟨_, ?_, rfl, hbel.drew⟩
          symm
          rw [decide_eq_false_iff_not]
          intro h
          apply g2
          have h9 := HX.out.trans ((congrArg (fun l => List.getD l k default) h).trans HY.out.symm)
          exact congrArg Nd.text h9
      · have f1 : (x1 == y1) = false := by simpa using g1
        have f2 : (x1 != y1) = true := by simpa using g1
        go_wp2
        go_region
        go_wp2
        go_ret
        refine ⟨_, ?_, rfl, hbel.drew⟩
        symm
        rw [decide_eq_false_iff_not]
        intro h
        apply g1
        have h9 := HX.out.trans ((congrArg (fun l => List.getD l k default) h).trans HY.out.symm)
        exact congrArg Nd.kind h9
    · go_wp2
      go_ret
      refine ⟨_, ?_, rfl, hbel⟩
      symm
      rw [decide_eq_true_eq]
      exact list_eq_pre default xs ys (by rw [hx.out, hy.out]) fun i hi => HP.out i (by rw [hx.out] at hi; omega)
theorem same_any (v v2 : Value) (xs ys : List Nd) (w : World) (h : NodesAt w v xs) (h2 : NodesAt w v2 ys) (hn : xs.length ≤ 1000000) : Calls Tryd.prog 17 #[v, v2] w (BRet w (decide (xs = ys))) := by
  obtain ⟨_, p, c, rfl, _, _, hp⟩ := h
  obtain ⟨_, q, d, rfl, _, _, hq⟩ := h2
  by_cases hl : xs.length = ys.length
  · by_cases h0 : xs.length = 0
    · obtain rfl : xs = [] := List.eq_nil_of_length_eq_zero h0
      obtain rfl : ys = [] := List.eq_nil_of_length_eq_zero (by rw [← hl]; rfl)
      exact same_zero p q c d w
    · obtain ⟨b, off, rfl, hb, hc⟩ := hp h0
      obtain ⟨b2, off2, rfl, hb2, hc2⟩ := hq (by omega)
      rw [← hl]
      exact same_any' b off b2 off2 c d xs.length xs ys w rfl hl.symm hc hc2 hb hb2 hn (Nat.pos_of_ne_zero h0)
  · rw [decide_eq_false (fun e => hl (by rw [e]))]
    exact same_far p q _ _ c d w (by simpa using hl)
end Go.Proofs.YtncifeeinogcnaaDoor
