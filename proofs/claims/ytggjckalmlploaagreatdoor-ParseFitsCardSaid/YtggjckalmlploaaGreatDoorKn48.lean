/- Texts of this seat, one behind the other: Same, ParLc, ParLd, ParMa. -/
import Derived.Test.YtggjckalmlploaaGreatDoorKn02
import Derived.Test.YtggjckalmlploaaGreatDoorKn47
import Derived.Test.YtggjckalmlploaaGreatDoorKn43
import Derived.Test.YtggjckalmlploaaGreatDoorKn22
/- The comparing functions: Row, Same. -/
namespace Go.Proofs.YtggjckalmlploaaGreatDoor
open Go.RowKit Go.Proofs.TreeMath
/-- A function that returns a bool. -/
def BRet (W : World) (b : Bool) (e : Ending) (w' : World) : Prop := ∃ b', b' = b ∧ e = .returned (.bool b') ∧ Below W.heap.size W w'
theorem same_far (p q : Option Addr) (n m c d : Nat) (w : World) (h : (n != m) = true) : Calls Tryz.prog 11 #[.slice p n c, .slice q m d] w (BRet w false) := by
  have h2 : ((n : Int) != (m : Int)) = true := by simp at h ⊢; omega
  have h3 : ((n : Int) == (m : Int)) = false := by simp at h ⊢; omega
  have h4 : (n == m) = false := by simp at h ⊢; omega
  go_enter Tryz.func11, Tryz.ntmps11
  go_wp2
  go_ret
  exact ⟨_, rfl, rfl, Below.refl _ _⟩
theorem same_zero (p q : Option Addr) (c d : Nat) (w : World) : Calls Tryz.prog 11 #[.slice p 0 c, .slice q 0 d] w (BRet w true) := by
  go_enter Tryz.func11, Tryz.ntmps11
  go_wp2
  refine wp_loop_rounds 1 ?_
  rw [rounds_succ]
  go_wp2
  go_ret
  exact ⟨_, rfl, rfl, Below.refl _ _⟩
theorem list_eq_pre {α : Type} (d : α) (xs ys : List α) (hl : xs.length = ys.length) (h : ∀ i, i < xs.length → xs.getD i d = ys.getD i d) : xs = ys := by
  refine List.ext_getElem hl fun i h1 h2 => ?_
  have := h i h1
  simpa [List.getD_eq_getElem?_getD, List.getElem?_eq_getElem h1, List.getElem?_eq_getElem h2] using this
set_option maxHeartbeats 2000000 in
theorem same_any' (b off b2 off2 c d n : Nat) (xs ys : List Nd) (w : World) (hx : Hid (xs.length = n)) (hy : Hid (ys.length = n)) (h1 : Hid (CellsIn w b off (nodeCells xs))) (h2 : Hid (CellsIn w b2 off2 (nodeCells ys))) (hb : b < w.heap.size) (hb2 : b2 < w.heap.size) (hn : n ≤ 1000000) (hn0 : 0 < n) :
    Calls Tryz.prog 11 #[.slice (some ⟨b, off, none⟩) n c, .slice (some ⟨b2, off2, none⟩) n d] w (BRet w (decide (xs = ys))) := by
  go_enter Tryz.func11, Tryz.ntmps11
  go_wp2
  go_loopw [5] (fun i wr => ∃ k : Nat, k ≤ n ∧ i = .int .i64 k ∧ Below w.heap.size w wr ∧ ∀ j, j < k → xs.getD j default = ys.getD j default) (fun i _ => n - (intOf i).toNat)
  case atStart => exact ⟨0, Nat.zero_le _, rfl, Below.refl _ _, fun j hj => by omega⟩
  case round =>
    obtain ⟨k, hk, rfl, hbel, hpre⟩ := hrel
    have HP := Lib.hid hpre
    clear hpre
    by_cases hlt : k < n
    · obtain ⟨a1, a2, a3, a4⟩ := h1.out.node k (by rw [hx.out]; exact hlt)
      obtain ⟨e1, e2, e3, e4⟩ := h2.out.node k (by rw [hy.out]; exact hlt)
      have a1 := (hbel.cell (p := ⟨b, off + k * 4, none⟩) hb).trans a1
      have a2 := (hbel.cell (p := ⟨b, off + k * 4 + 1, none⟩) hb).trans a2
      have a3 := (hbel.cell (p := ⟨b, off + k * 4 + 2, none⟩) hb).trans a3
      have a4 := (hbel.cell (p := ⟨b, off + k * 4 + 3, none⟩) hb).trans a4
      have e1 := (hbel.cell (p := ⟨b2, off2 + k * 4, none⟩) hb2).trans e1
      have e2 := (hbel.cell (p := ⟨b2, off2 + k * 4 + 1, none⟩) hb2).trans e2
      have e3 := (hbel.cell (p := ⟨b2, off2 + k * 4 + 2, none⟩) hb2).trans e3
      have e4 := (hbel.cell (p := ⟨b2, off2 + k * 4 + 3, none⟩) hb2).trans e4
      obtain ⟨x, hxk⟩ : ∃ x, x = xs.getD k default := ⟨_, rfl⟩
      obtain ⟨y, hyk⟩ : ∃ y, y = ys.getD k default := ⟨_, rfl⟩
      rw [← hxk] at a1 a2 a3 a4
      rw [← hyk] at e1 e2 e3 e4
      have HX := Lib.hid hxk
      have HY := Lib.hid hyk
      clear hxk hyk
      obtain ⟨x1, x2, x3, x4⟩ := x
      obtain ⟨y1, y2, y3, y4⟩ := y
      simp only at a1 a2 a3 a4 e1 e2 e3 e4
      by_cases g1 : x1 = y1
      · subst g1
        by_cases g2 : x2 = y2
        · subst g2
          by_cases g3 : x3 = y3
          · subst g3
            by_cases g4 : x4 = y4
            · subst g4
              go_wp2
              go_region
              go_wp2
              go_roundw
              case rel => exact ⟨k + 1, by omega, by go_num, hbel.drew, fun j hj => by
                rcases Nat.lt_or_ge j k with h | h
                · exact HP.out j h
                · rw [show j = k by omega, ← HX.out, ← HY.out]⟩
              case measure => simp [intOf]; omega
            · have f1 : (x4 == y4) = false := by simpa using g4
              have f2 : (x4 != y4) = true := by simpa using g4
              go_wp2
              go_region
              go_wp2
              go_ret
              refine ⟨_, ?_, rfl, hbel.drew⟩
              symm
              rw [decide_eq_false_iff_not]
              intro h
              apply g4
              have h9 := HX.out.trans ((congrArg (fun l => List.getD l k default) h).trans HY.out.symm)
              exact congrArg Nd.kids h9
          · have f1 : (x3 == y3) = false := by simpa using g3
            have f2 : (x3 != y3) = true := by simpa using g3
            go_wp2
            go_region
            go_wp2
            go_ret
            refine ⟨_, ?_, rfl, hbel.drew⟩
            symm
            rw [decide_eq_false_iff_not]
            intro h
            apply g3
            have h9 := HX.out.trans ((congrArg (fun l => List.getD l k default) h).trans HY.out.symm)
            exact congrArg Nd.num h9
        · have f3 : (x2.toList == y2.toList) = false := by
            rw [beq_eq_false_iff_ne]
            intro h
            exact g2 (Go.WideShapes.bytes_inj (by simpa [ByteArray.toList_eq] using h))
          go_wp2
          go_region
          go_wp2
          go_ret
          refine ⟨_, ?_, rfl, hbel.drew⟩
          symm
          rw [decide_eq_false_iff_not]
          intro h
          apply g2
          have h9 := HX.out.trans ((congrArg (fun l => List.getD l k default) h).trans HY.out.symm)
          exact congrArg Nd.text h9
      · have f1 : (x1 == y1) = false := by simpa using g1
        have f2 : (x1 != y1) = true := by simpa using g1
        go_wp2
        go_region
        go_wp2
        go_ret
        refine ⟨_, ?_, rfl, hbel.drew⟩
        symm
        rw [decide_eq_false_iff_not]
        intro h
        apply g1
        have h9 := HX.out.trans ((congrArg (fun l => List.getD l k default) h).trans HY.out.symm)
        exact congrArg Nd.kind h9
    · go_wp2
      go_ret
      refine ⟨_, ?_, rfl, hbel⟩
      symm
      rw [decide_eq_true_eq]
      exact list_eq_pre default xs ys (by rw [hx.out, hy.out]) fun i hi => HP.out i (by rw [hx.out] at hi; omega)
theorem same_any (v v2 : Value) (xs ys : List Nd) (w : World) (h : NodesAt w v xs) (h2 : NodesAt w v2 ys) (hn : xs.length ≤ 1000000) : Calls Tryz.prog 11 #[v, v2] w (BRet w (decide (xs = ys))) := by
  obtain ⟨_, p, c, rfl, _, _, hp⟩ := h
  obtain ⟨_, q, d, rfl, _, _, hq⟩ := h2
  by_cases hl : xs.length = ys.length
  · by_cases h0 : xs.length = 0
    · obtain rfl : xs = [] := List.eq_nil_of_length_eq_zero h0
      obtain rfl : ys = [] := List.eq_nil_of_length_eq_zero (by rw [← hl]; rfl)
      exact same_zero p q c d w
    · obtain ⟨b, off, rfl, hb, hc⟩ := hp h0
      obtain ⟨b2, off2, rfl, hb2, hc2⟩ := hq (by omega)
      rw [← hl]
      exact same_any' b off b2 off2 c d xs.length xs ys w rfl hl.symm hc hc2 hb hb2 hn (Nat.pos_of_ne_zero h0)
  · rw [decide_eq_false (fun e => hl (by rw [e]))]
    exact same_far p q _ _ c d w (by simpa using hl)
end Go.Proofs.YtggjckalmlploaaGreatDoor
/- The laws' helpers: awake. -/
set_option maxRecDepth 100000
namespace Go.Proofs.YtggjckalmlploaaGreatDoor
open Go.Shelf Go.RowKit Go.Lib Go.Proofs.TreeMath Go.Proofs.LexMath Go.Proofs.FixMath Go.Proofs.ParMath
theorem lit_slice {w : World} {size n : Nat} {A : Array Value} {T : TypeId} (h1 : A.toList.length = n * size) (h2 : n ≤ maxLen) : SliceAt (w.alloc (.cells A T)) size (.slice (some ⟨w.heap.size, 0, none⟩) n n) n A.toList :=
  ⟨h1, _, _, rfl, Nat.le_refl _, h2, fun _ => ⟨_, _, rfl, by simp, lit_cells w A T⟩⟩
set_option maxHeartbeats 4000000 in
theorem awake_any (w : World) (ht : Tab w) : Calls Tryz.prog 6 #[] w (RB true w) := by
  have f1 : Lx.FixAt (w.alloc (.cells #[.string ⟨#[43]⟩, .int .i64 6, .int .i64 (-1)] 41)) (.slice (some ⟨w.heap.size, 0, none⟩) 1 1) awF := lit_slice (size := 3) (A := #[.string ⟨#[43]⟩, .int .i64 6, .int .i64 (-1)]) rfl (by decide)
  have t1 := ht.below (lit_below w (.cells #[.string ⟨#[43]⟩, .int .i64 6, .int .i64 (-1)] 41))
  have hn : awF.length ≤ 1000000 := by decide
  have hsm : Lx.Small awF := fun f hf => by
    simp only [awF, List.mem_singleton] at hf
    rw [hf]; decide
  have K1 := parse_any awT (.slice (some ⟨w.heap.size, 0, none⟩) 1 1) awF _ f1 hn hsm (by decide) t1 t1.big 0 (fun ts h => by
    rw [aw_lex] at h
    cases h
    rw [aw_top]; exact aw_is) (expr_ok awT awF hn hsm)
  rw [aw_r1] at K1
  have K1 := Lib.hid K1
  have F1 := Lib.hid f1
  have T1 := Lib.hid t1
  have HSM := Lib.hid hsm
  unfold awT at K1
  clear f1 t1 hsm ht hn
  go_enter Tryz.func6, Tryz.ntmps6
  go_wp2_with fail
  refine (show Calls _ _ _ _ _ from K1.out).mono ?_
  rintro e w1 ⟨v1, rfl, hv1, hb1⟩
  obtain ⟨q1, c1, rfl⟩ : ∃ q c, v1 = .slice q 6 c := by obtain ⟨_, q, c, e, _⟩ := hv1; exact ⟨q, c, e⟩
  have V1 := Lib.hid hv1
  have F2 := Lib.hid (Lx.SliceAt.below F1.out hb1)
  have T2 := Lib.hid (T1.out.below hb1)
  have B1 := Lib.hid ((lit_below w _).trans (hb1.mono (by simp)))
  have K2 := parse_any awU (.slice (some ⟨w.heap.size, 0, none⟩) 1 1) awF w1 F2.out (by decide) HSM.out (by decide) T2.out T2.out.big (prsX awU awF) (fun ts h => prsX_ok h) (expr_ok awU awF (by decide) HSM.out)
  rw [aw_r2] at K2
  have K2 := Lib.hid K2
  unfold awU at K2
  clear hv1 hb1
  go_wp2_with fail
  refine (show Calls _ _ _ _ _ from K2.out).mono ?_
  rintro e w2 ⟨v2, rfl, hv2, hb2⟩
  obtain ⟨q2, c2, rfl⟩ : ∃ q c, v2 = .slice q 0 c := by obtain ⟨_, q, c, e, _⟩ := hv2; exact ⟨q, c, e⟩
  have V1 := Lib.hid (V1.out.below hb2)
  have F3 := Lib.hid (Lx.SliceAt.below F2.out hb2)
  have T3 := Lib.hid (T2.out.below hb2)
  have B2 := Lib.hid (B1.out.trans (hb2.mono B1.out.size))
  have lt := lit_below w2 (.cells #[.int .i64 1, .string ⟨#[120]⟩, .int .i64 0, .int .i64 0] 45)
  have tk : Lx.ToksAt (w2.alloc (.cells #[.int .i64 1, .string ⟨#[120]⟩, .int .i64 0, .int .i64 0] 45)) (.slice (some ⟨w2.heap.size, 0, none⟩) 1 1) awV := lit_slice (size := 4) (A := #[.int .i64 1, .string ⟨#[120]⟩, .int .i64 0, .int .i64 0]) rfl (by decide)
  have K3 := tokens_ok awC (.slice (some ⟨w2.heap.size, 0, none⟩) 1 1) (.slice (some ⟨w.heap.size, 0, none⟩) 1 1) awV _ tk (Lx.SliceAt.below F3.out lt) (by decide) HSM.out aw_chk ⟨by decide, fun t ht => by simp only [awV, List.mem_singleton] at ht; rw [ht]; decide⟩ (T3.out.below lt) (T3.out.below lt).big (rowed_climb _ _ _) 0 (by
    have h2 : topN awC awV = awM := by rfl
    rw [h2]; exact aw_isM) (fun p st W h => (ep_ok (C := awC) p rfl (by decide) HSM.out (rowed_climb _ _ _) 100 0 rfl).1 st W h)
  rw [aw_r3] at K3
  have K3 := Lib.hid K3
  have V1 := Lib.hid (V1.out.below lt)
  have B2a := Lib.hid (B2.out.trans (lt.mono B2.out.size))
  clear hv2 hb2 tk lt
  go_wp2_with fail
  refine (show Calls _ _ _ _ _ from K3.out).mono ?_
  rintro e w3 ⟨v3, rfl, hv3, hb3⟩
  obtain ⟨q3, c3, rfl⟩ : ∃ q c, v3 = .slice q 1 c := by obtain ⟨_, q, c, e, _⟩ := hv3; exact ⟨q, c, e⟩
  have V1 := Lib.hid (V1.out.below hb3)
  have B3 := Lib.hid (B2a.out.trans (hb3.mono B2a.out.size))
  clear hv3 hb3
  have lt := lit_below w3 (.cells #[.int .i64 5, .string ⟨#[120]⟩, .int .i64 0, .int .i64 1, .int .i64 6, .string ⟨#[]⟩, .int .i64 0, .int .i64 2, .int .i64 6, .string ⟨#[]⟩, .int .i64 0, .int .i64 2, .int .i64 3, .string ⟨#[43]⟩, .int .i64 0, .int .i64 0, .int .i64 3, .string ⟨#[120]⟩, .int .i64 0, .int .i64 0, .int .i64 1, .string ⟨#[]⟩, .int .i64 1, .int .i64 0] 37)
  have nl : NodesAt (w3.alloc (.cells #[.int .i64 5, .string ⟨#[120]⟩, .int .i64 0, .int .i64 1, .int .i64 6, .string ⟨#[]⟩, .int .i64 0, .int .i64 2, .int .i64 6, .string ⟨#[]⟩, .int .i64 0, .int .i64 2, .int .i64 3, .string ⟨#[43]⟩, .int .i64 0, .int .i64 0, .int .i64 3, .string ⟨#[120]⟩, .int .i64 0, .int .i64 0, .int .i64 1, .string ⟨#[]⟩, .int .i64 1, .int .i64 0] 37)) (.slice (some ⟨w3.heap.size, 0, none⟩) 6 6) awN := lit_slice (size := 4) (A := #[.int .i64 5, .string ⟨#[120]⟩, .int .i64 0, .int .i64 1, .int .i64 6, .string ⟨#[]⟩, .int .i64 0, .int .i64 2, .int .i64 6, .string ⟨#[]⟩, .int .i64 0, .int .i64 2, .int .i64 3, .string ⟨#[43]⟩, .int .i64 0, .int .i64 0, .int .i64 3, .string ⟨#[120]⟩, .int .i64 0, .int .i64 0, .int .i64 1, .string ⟨#[]⟩, .int .i64 1, .int .i64 0]) rfl (by decide)
  have K4 := same_any _ _ awN awN _ (V1.out.below lt) nl (by decide)
  rw [show decide (awN = awN) = true from decide_eq_true rfl] at K4
  have K4 := Lib.hid K4
  have B3a := Lib.hid (B3.out.trans (lt.mono B3.out.size))
  clear nl lt
  go_wp2_with fail
  refine (show Calls _ _ _ _ _ from K4.out).mono ?_
  rintro e w4 ⟨b', rfl, rfl, hb4⟩
  have B4 := Lib.hid (B3a.out.trans (hb4.mono B3a.out.size))
  clear hb4
  go_wp2_with fail
  go_ret
  exact ⟨rfl, B4.out⟩
end Go.Proofs.YtggjckalmlploaaGreatDoor
/- The walk of ParseFits. -/
set_option maxRecDepth 100000
namespace Go.Proofs.YtggjckalmlploaaGreatDoor
open Go.Shelf Go.RowKit Go.Lib Go.Proofs.TreeMath Go.Proofs.LexMath Go.Proofs.FixMath Go.Proofs.ParMath
/-- What was read without fault. -/
theorem prs_good {s : ByteArray} {fs : List Fx} (_hs : s.size ≤ 700) (h : (prs s fs).2.2 = 0) : ∃ ts, lex s.data.toList = .ok ts ∧ checkL Lx.rightF fs = 0 ∧ prs s fs = (topN (cfg s fs) ts, 0, 0) ∧ (topS (cfg s fs) ts).e = 0 ∧ prsX s fs = 0 := by
  unfold prs parseR at h ⊢
  split at h
  · rename_i hc
    cases hl : lex s.data.toList with
    | err c p =>
      rw [hl] at h
      have := lex_err hl
      simp only at h
      omega
    | ok ts =>
      rw [hl] at h
      simp only at h
      refine ⟨ts, rfl, hc, ?_⟩
      rw [if_pos hc]
      simp only
      unfold tokensR at h ⊢
      by_cases h1 : (topS (cfg s fs) ts).e = 0
      · rw [if_pos h1] at h ⊢
        by_cases h2 : prsX s fs = 0
        · rw [if_pos h2]; exact ⟨rfl, h1, h2⟩
        · rw [if_neg h2] at h; simp at h
      · rw [if_neg h1] at h; exact absurd h h1
  · rename_i hc
    exact absurd h hc
theorem prs_nodes {s : ByteArray} {fs : List Fx} (hs : s.size ≤ 700) (h : (prs s fs).2.2 = 0) : (prs s fs).2.1 = 0 ∧ (prs s fs).1.length ≤ 4000 ∧ Tx (prs s fs).1 ∧ CheckIs (prs s fs).1 0 0 := by
  obtain ⟨ts, h1, _, h3, _, h5⟩ := prs_good hs h
  have hsz := (ep_sz (C := cfg s fs) (L := 1000) (rowed_climb _ _ _) 100).1 (st0 ts) (lex_lim hs h1).1.2
  have hx := prsX_ok (fs := fs) h1
  have hl := (lex_lim hs h1).1.1
  rw [h5] at hx
  rw [h3]
  have e : (st0 ts).rest = ts := rfl
  rw [e] at hsz
  exact ⟨rfl, by show (topN _ _).length ≤ _; unfold topN; omega, fun n hn => hsz.2.1 n hn, hx⟩
theorem prs_bad {s : ByteArray} {fs : List Fx} (hs : s.size ≤ 700) (h : ¬ (prs s fs).2.2 = 0) : (prs s fs).1 = [] ∧ 0 ≤ (prs s fs).2.1 ∧ (prs s fs).2.1 ≤ s.size := by
  unfold prs parseR at h ⊢
  split
  · rename_i hc
    rw [if_pos hc] at h
    cases hl : lex s.data.toList with
    | err c p =>
      have := lex_err hl
      exact ⟨rfl, by show (0 : Int) ≤ (p : Int); omega, by show (p : Int) ≤ _; omega⟩
    | ok ts =>
      rw [hl] at h
      simp only at h ⊢
      unfold tokensR at h ⊢
      by_cases h1 : (topS (cfg s fs) ts).e = 0
      · rw [if_pos h1] at h ⊢
        by_cases h2 : prsX s fs = 0
        · rw [if_pos h2] at h; exact absurd rfl h
        · rw [if_neg h2]; exact ⟨rfl, Int.le_refl 0, by show (0 : Int) ≤ _; omega⟩
      · rw [if_neg h1]
        refine ⟨rfl, ?_⟩
        rcases top_good (cfg s fs) ts with ⟨h3, _⟩ | ⟨_, h3 | ⟨t, ht, h3⟩⟩
        · exact absurd h3 h1
        · simp only [h3]; unfold cfg; simp only; omega
        · simp only [h3]
          have := (lex_lim hs hl).2 t ht
          omega
  · exact ⟨rfl, Int.le_refl 0, by show (0 : Int) ≤ _; omega⟩
theorem few_sm {fs : List Fx} (h : Lx.fewB fs = true) : fs.length ≤ 20 ∧ ∀ f ∈ fs, f.op.size ≤ 20 := Lx.few_all h
set_option maxHeartbeats 4000000 in
theorem fits_walk (s : ByteArray) (v : Value) (fs : List Fx) (w : World) (h : Lx.FixAt w v fs) (_hs : s.size ≤ maxLen) (ht : Tab w) : Calls Tryz.prog 3 #[.string s, v] w (RB true w) := by
  obtain ⟨q, c, rfl⟩ := Lx.fix_form h
  have HFX := Lib.hid h
  have HT := Lib.hid ht
  clear h ht
  by_cases h6 : 600 < s.size
  · have d1 : decide ((600 : Int) < (s.size : Int)) = true := by simp; omega
    clear h6
    go_enter Tryz.func3, Tryz.ntmps3
    go_wp2_with fail
    refine (awake_any w HT.out).mono ?_
    rintro e w1 ⟨rfl, b1⟩
    have B1 := Lib.hid b1
    have T1 := Lib.hid (HT.out.below b1)
    clear b1
    go_wp2_with fail
    refine (awake_any w1 T1.out).mono ?_
    rintro e w2 ⟨rfl, b2⟩
    have B2 := Lib.hid (B1.out.trans (b2.mono B1.out.size))
    clear b2
    go_wp2_with fail
    go_ret
    exact ⟨rfl, B2.out⟩
  · have d1 : decide ((600 : Int) < (s.size : Int)) = false := by simp; omega
    cases hfw : Lx.fewB fs with
    | false =>
      clear h6
      go_enter Tryz.func3, Tryz.ntmps3
      go_wp2_with fail
      refine (awake_any w HT.out).mono ?_
      rintro e w1 ⟨rfl, b1⟩
      have B1 := Lib.hid b1
      have T1 := Lib.hid (HT.out.below b1)
      have FW := Lx.few_any _ fs w1 (Lx.SliceAt.below HFX.out b1)
      rw [hfw] at FW
      have FW := Lib.hid FW
      clear b1 hfw
      go_wp2_with fail
      refine FW.out.mono ?_
      rintro e w1' ⟨rfl, rfl⟩
      go_wp2_with fail
      refine (awake_any w1 T1.out).mono ?_
      rintro e w2 ⟨rfl, b2⟩
      have B2 := Lib.hid (B1.out.trans (b2.mono B1.out.size))
      clear b2
      go_wp2_with fail
      go_ret
      exact ⟨rfl, B2.out⟩
    | true =>
      have hfl := few_sm hfw
      have HFL := Lib.hid hfl
      have PG := Lib.hid (prs_nodes (s := s) (fs := fs) (by omega))
      have PB := Lib.hid (prs_bad (s := s) (fs := fs) (by omega))
      have hs7 : s.size ≤ 700 := by omega
      obtain ⟨R, hR⟩ : ∃ R, R = prs s fs := ⟨_, rfl⟩
      rw [← hR] at PG PB
      have KP : Hid (∀ fv W, Lx.FixAt W fv fs → Tab W → Calls Tryz.prog 8 #[.string s, fv] W (R3 R W)) := Lib.hid fun fv W h1 h2 => by rw [hR]; exact prs_any s fv fs W h1 hfl.1 hfl.2 hs7 h2
      obtain ⟨rn, ra, re⟩ := R
      simp only at PG PB
      clear h6 hfl hR
      go_enter Tryz.func3, Tryz.ntmps3
      go_wp2_with fail
      refine (awake_any w HT.out).mono ?_
      rintro e w1 ⟨rfl, b1⟩
      have B1 := Lib.hid b1
      have T1 := Lib.hid (HT.out.below b1)
      have F1 := Lib.hid (Lx.SliceAt.below HFX.out b1)
      have FW := Lx.few_any _ fs w1 F1.out
      rw [hfw] at FW
      have FW := Lib.hid FW
      clear b1 hfw
      go_wp2_with fail
      refine FW.out.mono ?_
      rintro e w1' ⟨rfl, rfl⟩
      go_wp2_with fail
      refine (Lx.own_any _ fs w1 F1.out (by have := HFL.out.1; omega)).mono ?_
      rintro e w2 ⟨v2, rfl, hf2, b2⟩
      obtain ⟨q2, c2, rfl⟩ := Lx.fix_form hf2
      have B2 := Lib.hid (B1.out.trans (b2.mono B1.out.size))
      have K := Lib.hid (KP.out _ w2 hf2 (T1.out.below b2))
      clear b2 hf2
      go_wp2_with fail
      refine (show Calls _ _ _ _ _ from K.out).mono ?_
      rintro e w3 ⟨v3, rfl, hv3, b3⟩
      obtain ⟨q3, c3, rfl⟩ : ∃ q c, v3 = .slice q rn.length c := by obtain ⟨_, q, c, e, _⟩ := hv3; exact ⟨q, c, e⟩
      have V3 := Lib.hid hv3
      have B3 := Lib.hid (B2.out.trans (b3.mono B2.out.size))
      clear hv3 b3
      simp only at V3 ⊢
      by_cases he : re = 0
      · subst he
        obtain ⟨p1, p2, p3, p4⟩ := PG.out rfl
        subst p1
        have CK := Lib.hid (Check_any _ rn 0 w3 V3.out (by omega) p3 p4)
        clear p2 p3 p4
        go_wp2_with fail
        refine CK.out.mono ?_
        rintro e w4 ⟨rfl, b4⟩
        have B4 := Lib.hid (B3.out.trans (b4.mono B3.out.size))
        clear b4
        go_wp2_with fail
        go_ret
        exact ⟨rfl, B4.out⟩
      · obtain ⟨p1, p2, p3⟩ := PB.out he
        have hz : (re == 0) = false := by rw [beq_eq_false_iff_ne]; exact he
        subst p1
        have d2 : decide ((0 : Int) ≤ ra) = true := by simp; exact p2
        have d3 : decide (ra ≤ (s.size : Int)) = true := by simp; exact p3
        clear he p2 p3
        go_wp2_with fail
        go_ret
        exact ⟨rfl, B3.out⟩
end Go.Proofs.YtggjckalmlploaaGreatDoor
/- The laws' mathematics: blanks ahead; which errors there are. -/
set_option maxRecDepth 100000
namespace Go.Proofs.ParMath
open Go.Proofs.TreeMath Go.Proofs.LexMath Go.Proofs.FixMath Go.Proofs.YtggjckalmlploaaGreatDoor
/-- The parser's own errors. -/
def Ec (s : St) : Prop := s.e = 0 ∨ (70 ≤ s.e ∧ s.e ≤ 73)
theorem fail_ec {s : St} (h : Ec s) (x : Int) {c : Int} (hc : 70 ≤ c ∧ c ≤ 73) : Ec (s.fail x c) := by
  unfold St.fail
  split
  · exact .inr hc
  · exact h
section
variable {C : Cfg} {E P : Par}
theorem take_ec (p : Test) {s : St} (h : Ec s) : Ec (take C p s).2 := by
  unfold take
  split
  · exact h
  · exact fail_ec h _ (by decide)
theorem bind_ec {s : St} (h : Ec s) : Ec (bindM C s).2 := by
  unfold bindM
  split
  · exact take_ec _ (take_ec _ (take_ec _ h))
  · exact take_ec _ h
variable (hE : ∀ s, Ec s → Ec (E s).2) (hP : ∀ s, Ec s → Ec (P s).2)
include hE hP
theorem partsM_ec (ws : List ByteArray) : ∀ (nm : ByteArray) (kids : List (List Nd)) (s : St), Ec s → Ec (partsM C E P ws nm kids s).2 := by
  induction ws with
  | nil => intro nm kids s h; exact h
  | cons x ws ih =>
    intro nm kids s h
    unfold partsM
    split
    · exact ih _ _ _ (bind_ec h)
    · split
      · exact ih _ _ _ (hE s h)
      · split
        · exact ih _ _ _ (hP s h)
        · exact ih _ _ _ (take_ec _ h)
theorem parts0_ec (ws : List ByteArray) {s : St} (h : Ec s) : Ec (parts0 C E P ws s).2 := partsM_ec hE hP ws _ _ s h
theorem armsM_ec (k : Nat) : ∀ (kids : List (List Nd)) (s : St), Ec s → Ec (armsM C E P k kids s).2 := by
  induction k with
  | zero => intro kids s h; exact h
  | succ k ih =>
    intro kids s h
    unfold armsM
    split
    · exact ih _ _ (parts0_ec hE hP _ h)
    · exact h
theorem match_ec {s : St} (h : Ec s) : Ec (matchM C E P s).2 := take_ec _ (armsM_ec hE hP _ _ _ (parts0_ec hE hP _ h))
theorem atom_ec {s : St} (h : Ec s) : Ec (atomM C E P s).2 := by
  unfold atomM
  repeat' split
  · exact match_ec hE hP h
  · exact bind_ec h
  · exact parts0_ec hE hP _ h
  · exact take_ec _ h
theorem appL_ec (k : Nat) : ∀ s : St, Ec s → Ec (appL C E P k s).2 := by
  induction k with
  | zero => intro s h; exact atom_ec hE hP h
  | succ k ih =>
    intro s h
    unfold appL
    split
    · exact ih _ (atom_ec hE hP h)
    · exact atom_ec hE hP h
theorem app_ec {s : St} (h : Ec s) : Ec (appM C E P s).2 := appL_ec hE hP _ s h
theorem opsL_ec (k : Nat) : ∀ s : St, Ec s → Ec (opsL C E P k s).2 := by
  induction k with
  | zero => intro s h; exact h
  | succ k ih =>
    intro s h
    unfold opsL
    split
    · exact ih _ (app_ec hE hP (take_ec _ h))
    · exact h
omit hE hP in
theorem struct_ec (x : Int) (ops : List Tok) {s : St} (h : Ec s) : Ec (structM C x ops s).2 := by
  unfold structM
  split
  · exact fail_ec h _ (by decide)
  · simp only
    split
    · exact h
    · exact fail_ec h _ (by decide)
theorem row_ec {s : St} (h : Ec s) : Ec (rowM C E P s).2 := by
  unfold rowM
  split
  · exact opsL_ec hE hP _ _ (app_ec hE hP h)
  · exact struct_ec _ _ (opsL_ec hE hP _ _ (app_ec hE hP h))
theorem exprB_ec {s : St} (h : Ec s) : Ec (exprB C E P s).2 := by
  unfold exprB
  repeat' split
  all_goals first | exact parts0_ec hE hP _ h | exact row_ec hE hP h
theorem patom_ec {s : St} (h : Ec s) : Ec (patomM C E P s).2 := by
  unfold patomM
  repeat' split
  all_goals first | exact take_ec _ h | exact parts0_ec hE hP _ h | exact bind_ec h
theorem patL_ec (k : Nat) : ∀ s : St, Ec s → Ec (patL C E P k s).2 := by
  induction k with
  | zero => intro s h; exact h
  | succ k ih =>
    intro s h
    unfold patL
    split
    · exact ih _ (patom_ec hE hP h)
    · exact h
theorem patB_ec {s : St} (h : Ec s) : Ec (patB C E P s).2 := by
  unfold patB
  split
  · exact patL_ec hE hP _ _ (take_ec _ h)
  · exact patom_ec hE hP h
end
theorem ep_ec (C : Cfg) (n : Nat) : (∀ s, Ec s → Ec ((epM C n).1 s).2) ∧ (∀ s, Ec s → Ec ((epM C n).2 s).2) := by
  induction n with
  | zero => exact ⟨fun s h => fail_ec h _ (by decide), fun s h => fail_ec h _ (by decide)⟩
  | succ n ih => exact ⟨fun s h => exprB_ec ih.1 ih.2 h, fun s h => patB_ec ih.1 ih.2 h⟩
theorem top_ec (C : Cfg) (l : List Tok) : Ec (topS C l) := by
  have h := (ep_ec C 100).1 (st0 l) (.inl rfl)
  unfold topS
  split
  · exact h
  · exact fail_ec h _ (by decide)
/-- Tokens so much further on. -/
def shR (k : Nat) : Res → Res
  | .ok ts => .ok (ts.map (shT k))
  | .err e p => .err e (p + k)
theorem shR_pre (k : Nat) (R : Res) (t : Tok) : shR k (R.pre [t]) = (shR k R).pre [shT k t] := by cases R <;> rfl
theorem lex_sh (k : Nat) (p n : Nat) (l : Bs) : lexAt (p + k) n l = shR k (lexAt p n l) := by
  refine lex_cases p n l (fun p n l R => lexAt (p + k) n l = shR k R) ?_ ?_ ?_ ?_ ?_ ?_
  · intro p n; rfl
  · intro p n c r hc ih
    rw [lexAt_blank (p + k) n c r hc, show p + k + 1 = p + 1 + k by omega]
    exact ih
  · intro p n c r j hc hj ih
    rw [lexAt_comment (p + k) n c r hc, ← hj, show p + k + j = p + j + k by omega]
    exact ih
  · intro p n c r e hb ho
    rw [lexAt_err (p + k) n hb ho]; rfl
  · intro p c r kk t v m hb ho
    rw [lexAt_many (p + k) hb ho]; rfl
  · intro p n c r kk t v m hb ho hn ih
    rw [lexAt_tok (p + k) n hb ho hn, show p + k + m = p + m + k by omega, ih, shR_pre]
    rfl
theorem lex_blanks (m : Nat) : ∀ (p n : Nat) (l : Bs), lexAt p n (List.replicate m 32 ++ l) = lexAt (p + m) n l := by
  induction m with
  | zero => intro p n l; rfl
  | succ m ih =>
    intro p n l
    rw [List.replicate_succ, List.cons_append, lexAt_blank p n 32 _ (.inl rfl), ih]
    congr 1
    omega
theorem lex_ahead (m : Nat) (l : Bs) : lex (List.replicate m 32 ++ l) = shR m (lex l) := by
  unfold lex
  rw [lex_blanks, lex_sh m 0 0 l]
end Go.Proofs.ParMath
