/- Texts of this seat, one behind the other: LaC, LaE. -/
import Derived.Test.YtncifeeinogcnaaGreatDoorKn25
import Derived.BigQuiet
import Derived.Lib.QuietBelow
import Derived.Test.YtncifeeinogcnaaGreatDoorKn32
import Derived.Test.YtncifeeinogcnaaGreatDoorKn29
/- The document's own answer: the same bindings? -/
set_option maxRecDepth 100000
namespace Go.Proofs.YtncifeeinogcnaaGreatDoor
open Go.RowKit Go.Lib Go.Maps Go.Proofs.TreeMath

theorem prs_take (bs : List BT) (j : Nat) (hj : j < bs.length) : prs (bs.take (j + 1)) = prs (bs.take j) ++ [((bs.getD j default).1, (bs.getD j default).2.1)] := by
  unfold prs; rw [map_take_one _ bs j hj]
set_option maxHeartbeats 4000000 in
theorem bsame_any (B C : Nat) (bs cs : List BT) (lv mv : Value) (w : World) (h : BG B bs lv w) (k : BG C cs mv w) (hb : ∀ b ∈ bs, b.2.1.length ≤ 4000) (hl : bs.length ≤ 1000000) : Calls Tryz.prog 24 #[lv, mv] w (BRet w (decide (prs bs = prs cs))) := by
  obtain ⟨ql, cl, rfl⟩ := row_form h.1
  obtain ⟨qm, cm, rfl⟩ := row_form k.1
  have H := Lib.hid h
  have K := Lib.hid k
  by_cases hn : bs.length = cs.length
  · obtain ⟨n, hn1⟩ : ∃ n, n = bs.length := ⟨_, rfl⟩
    have hn2 : n = cs.length := by omega
    have HN1 := Lib.hid hn1
    have HN2 := Lib.hid hn2
    have HBL := Lib.hid hb
    rw [← hn2, ← hn1]
    have hl3 : n ≤ 1000000 := by omega
    clear h k hn hb hl hn1 hn2
    go_enter Tryz.func24, Tryz.ntmps24
    go_wp2
    go_loopw [5] (fun i wr => ∃ j : Nat, j ≤ n ∧ i = .int .i64 j ∧ Hid (prs (bs.take j) = prs (cs.take j)) ∧ Hid (Below w.heap.size w wr)) (fun i _ => n - (intOf i).toNat)
    case atStart => exact ⟨0, Nat.zero_le _, rfl, Lib.hid rfl, Lib.hid (Below.refl _ _)⟩
    case round =>
      obtain ⟨wo, hwo⟩ : ∃ wo : World, wo = wr := ⟨_, rfl⟩
      subst hwo
      obtain ⟨j, hj, rfl, hE, hB⟩ := hrel
      by_cases hlt : j < n
      · obtain ⟨x, hx⟩ : ∃ x, x = bs.getD j default := ⟨_, rfl⟩
        obtain ⟨y, hy⟩ : ∃ y, y = cs.getD j default := ⟨_, rfl⟩
        have hxm : x ∈ bs := by rw [hx, getD_get bs j (by rw [← HN1.out]; exact hlt)]; exact List.getElem_mem _
        have hym : y ∈ cs := by rw [hy, getD_get cs j (by rw [← HN2.out]; exact hlt)]; exact List.getElem_mem _
        obtain ⟨_, q', c', e', _, _, g4⟩ := (SliceAt.of_owns H.out.1).below hB.out
        obtain ⟨b, o, rfl, gb, gc⟩ := g4 (by rw [← HN1.out]; omega)
        simp only [Value.slice.injEq] at e'
        obtain ⟨rfl, e1, rfl⟩ := e'
        obtain ⟨_, q', c', e', _, _, g4'⟩ := (SliceAt.of_owns K.out.1).below hB.out
        obtain ⟨b2, o2, rfl, gb2, gc2⟩ := g4' (by rw [← HN2.out]; omega)
        simp only [Value.slice.injEq] at e'
        obtain ⟨rfl, e2, rfl⟩ := e'
        have x0 := btCells_get bs j (by rw [← HN1.out]; exact hlt)
        have y0 := btCells_get cs j (by rw [← HN2.out]; exact hlt)
        rw [← hx] at x0
        rw [← hy] at y0
        have c0 := gc _ _ x0.1
        have c1 := gc _ _ x0.2
        have d0 := gc2 _ _ y0.1
        have d1 := gc2 _ _ y0.2
        have SX := Lib.hid (show NodesAt wo x.2.2 x.2.1 from (SliceAt.of_owns (H.out.2 x hxm)).below hB.out)
        have SY := Lib.hid (show NodesAt wo y.2.2 y.2.1 from (SliceAt.of_owns (K.out.2 y hym)).below hB.out)
        have hx4 := HBL.out x hxm
        have SAME := Lib.hid (fun W (hW : Below wo.heap.size wo W) => same_any x.2.2 y.2.2 x.2.1 y.2.1 W (SX.out.below hW) (SY.out.below hW) (by omega))
        have STX := Lib.hid (prs_take bs j (by rw [← HN1.out]; exact hlt))
        have STY := Lib.hid (prs_take cs j (by rw [← HN2.out]; exact hlt))
        rw [← hx] at STX
        rw [← hy] at STY
        have NO : Hid (¬ (x.1 = y.1 ∧ x.2.1 = y.2.1) → decide (prs bs = prs cs) = false) := Lib.hid fun hne => decide_eq_false fun e => hne (by
          have e3 := congrArg (fun l => l.take (j + 1)) e
          have tk : ∀ l : List BT, (prs l).take (j + 1) = prs (l.take (j + 1)) := fun l => by unfold prs; rw [List.map_take]
          simp only [tk] at e3
          rw [STX.out, STY.out, hE.out] at e3
          have e4 := List.append_cancel_left e3
          simp only [List.cons.injEq, Prod.mk.injEq, and_true] at e4
          exact e4)
        obtain ⟨x1, xl, xv⟩ := x
        obtain ⟨y1, yl, yv⟩ := y
        simp only at c0 c1 d0 d1 SAME STX STY NO hx4
        obtain ⟨qa, ca, ea⟩ : ∃ q c, xv = .slice q xl.length c := by obtain ⟨_, p, c, e, _⟩ := SX.out; exact ⟨p, c, e⟩
        obtain ⟨qb, cb', eb⟩ : ∃ q c, yv = .slice q yl.length c := by obtain ⟨_, p, c, e, _⟩ := SY.out; exact ⟨p, c, e⟩
        subst ea eb
        clear SX SY hx hy hxm hym e1 e2 g4 g4' gb gc gb2 gc2 x0 y0
        obtain ⟨la, hla⟩ : ∃ l, l = xl.length := ⟨_, rfl⟩
        obtain ⟨lb, hlb⟩ : ∃ l, l = yl.length := ⟨_, rfl⟩
        rw [← hla] at SAME c1
        rw [← hlb] at SAME d1
        clear hla hlb hx4
        by_cases e : x1 = y1
        · subst e
          have t1 : (x1 == x1) = true := by simp
          have t2 : (x1 != x1) = false := by simp
          cases hd : decide (xl = yl) with
          | false =>
            have N := Lib.hid (NO.out fun h => by rw [decide_eq_true h.2] at hd; exact absurd hd (by decide))
            rw [hd] at SAME
            have SAME2 : Hid (∀ W, Below wo.heap.size wo W → Calls Tryz.prog 20 #[.slice qa la ca, .slice qb lb cb'] W fun e w' => e = .returned (.bool false) ∧ Below W.heap.size W w') := Lib.hid fun W hW => (SAME.out W hW).mono fun e w' h => by obtain ⟨b', rfl, rfl, b⟩ := h; exact And.intro rfl b
            clear NO STX STY hE hd SAME
            go_wp2
            rw [← Nat.add_assoc] at c1 d1
            have e0 := cell_regrown c0
            have e1 := cell_regrown c1
            have e2 := cell_regrown d0
            have e3 := cell_regrown d1
            clear c0 c1 d0 d1
            refine wp_region_quiet_below (by kernel_rfl) (by kernel_rfl) ?_
            repeat (go_big_quiet_step ((go_at_call 20; with_reducible exact Calls.regrown_of (SAME2.out _ (below_regrown wo _ _)))))
            refine wpQuiet_nil ?_
            intro _ hw'
            obtain ⟨⟨dq, osq⟩, hw''⟩ := hw'
            subst hw''
            clear e0 e1 e2 e3 SAME2
            have B5 := Lib.hid (hB.out.trans ((below_regrown wo dq osq).mono hB.out.size))
            go_wp2
            go_ret
            exact ⟨_, N.out.symm, rfl, B5.out⟩
          | true =>
            have Y := Lib.hid (show prs (bs.take (j + 1)) = prs (cs.take (j + 1)) by rw [STX.out, STY.out, hE.out, of_decide_eq_true hd])
            rw [hd] at SAME
            have SAME2 : Hid (∀ W, Below wo.heap.size wo W → Calls Tryz.prog 20 #[.slice qa la ca, .slice qb lb cb'] W fun e w' => e = .returned (.bool true) ∧ Below W.heap.size W w') := Lib.hid fun W hW => (SAME.out W hW).mono fun e w' h => by obtain ⟨b', rfl, rfl, b⟩ := h; exact And.intro rfl b
            clear NO STX STY hE hd SAME
            go_wp2
            rw [← Nat.add_assoc] at c1 d1
            have e0 := cell_regrown c0
            have e1 := cell_regrown c1
            have e2 := cell_regrown d0
            have e3 := cell_regrown d1
            clear c0 c1 d0 d1
            refine wp_region_quiet_below (by kernel_rfl) (by kernel_rfl) ?_
            repeat (go_big_quiet_step ((go_at_call 20; with_reducible exact Calls.regrown_of (SAME2.out _ (below_regrown wo _ _)))))
            refine wpQuiet_nil ?_
            intro _ hw'
            obtain ⟨⟨dq, osq⟩, hw''⟩ := hw'
            subst hw''
            clear e0 e1 e2 e3 SAME2
            have B5 := Lib.hid (hB.out.trans ((below_regrown wo dq osq).mono hB.out.size))
            go_wp2
            go_roundw
            case rel => exact ⟨j + 1, by omega, by go_num, Y, B5⟩
            case measure => simp [intOf]; omega
        · have t1 : (x1 == y1) = false := by simpa using e
          have t2 : (x1 != y1) = true := by simp [e]
          have N := Lib.hid (NO.out fun h => e h.1)
          clear NO SAME STX STY e hE
          go_wp2
          go_region
          all_goals
            go_wp2
            go_ret
            exact ⟨_, N.out.symm, rfl, by first | exact hB.out | exact hB.out.drew⟩
      · obtain rfl : j = n := by omega
        have Y : Hid (decide (prs bs = prs cs) = true) := Lib.hid (decide_eq_true (by
          have := hE.out
          rw [List.take_of_length_le (by rw [← HN1.out]; omega), List.take_of_length_le (by rw [← HN2.out]; omega)] at this
          exact this))
        clear hE hlt
        go_wp2
        go_ret
        exact ⟨_, Y.out.symm, rfl, hB.out⟩
  · have t1 : (bs.length == cs.length) = false := by simpa using hn
    have t2 : (bs.length != cs.length) = true := by simp [hn]
    have N : Hid (decide (prs bs = prs cs) = false) := Lib.hid (decide_eq_false fun e => hn (by have := congrArg List.length e; simpa [prs] using this))
    obtain ⟨n, hn1⟩ : ∃ n, n = bs.length := ⟨_, rfl⟩
    obtain ⟨m, hm1⟩ : ∃ m, m = cs.length := ⟨_, rfl⟩
    rw [← hn1, ← hm1] at t1 t2
    rw [← hn1, ← hm1]
    clear h k hn hn1 hm1
    go_enter Tryz.func24, Tryz.ntmps24
    go_wp2
    go_ret
    exact ⟨_, N.out.symm, rfl, Below.refl _ _⟩
end Go.Proofs.YtncifeeinogcnaaGreatDoor
/- The chapter's example. -/
set_option maxRecDepth 100000
namespace Go.Proofs.YtncifeeinogcnaaGreatDoor
open Go.RowKit Go.Lib Go.Maps Go.Proofs.TreeMath

def sStr : ByteArray := ⟨#[40, 39, 51, 32, 45, 62, 32, 105, 110, 116, 41, 32, 45, 62, 32, 116, 101, 120, 116]⟩
theorem small_of {l : List Nd} (h : (l.all fun f => decide (f.text.size ≤ 100000000)) = true) : SmallN l := fun f hf => by
  have := List.all_eq_true.1 h f hf
  simpa using this
theorem ex_show (v : Value) (w : World) (h : NodesAt w v [fX, fX, vN 3, nX, tX]) (htab : TabW w) : Calls Tryz.prog 11 #[v] w fun e w' => e = .returned (.tuple #[.string sStr, .int .i64 0]) ∧ Below w.heap.size w w' := by
  have := show_good v fX (.cons fX (.cons (vN 3) .nil (.cons nX .nil .nil)) (.cons tX .nil .nil)) w h (small_of (by decide)) (by decide +kernel) (okT_of _ ⟨rfl, ⟨rfl, ⟨rfl, trivial, rfl, trivial, trivial⟩, rfl, trivial, trivial⟩, trivial⟩ (by decide +kernel) (by decide)) htab
  unfold ShP at this
  rw [showX] at this
  exact this
theorem ex_check (v : Value) (w : World) (h : NodesAt w v [nX]) : Calls Tryz.prog 14 #[v] w fun e w' => e = .returned (.int .i64 0) ∧ Below w.heap.size w w' := by
  have := check_any v [nX] w h (by decide) (small_of (by decide))
  unfold CkP at this
  rw [show tyB [nX] = true by decide +kernel] at this
  exact this
theorem ex_vars (v : Value) (w : World) (h : NodesAt w v [vN 4]) : Calls Tryz.prog 15 #[v] w fun e w' => ∃ lv, e = .returned lv ∧ IntsAt w' lv [4] ∧ Below w.heap.size w w' := by
  refine (vars_any v [vN 4] w h (by decide) (small_of (by decide))).mono ?_
  rintro e w' ⟨lv, rfl, ho, b⟩
  rw [varsX] at ho
  exact ⟨lv, rfl, SliceAt.of_owns ho, b⟩
theorem ex_canon (v : Value) (w : World) (h : NodesAt w v [vN 4]) : Calls Tryz.prog 16 #[v] w fun e w' => ∃ lv, e = .returned lv ∧ NodesAt w' lv [vN 0] ∧ Below w.heap.size w w' := by
  refine (canon_any v [vN 4] w h (by decide) (small_of (by decide))).mono ?_
  rintro e w' ⟨lv, rfl, ho, b⟩
  rw [canonX] at ho
  exact ⟨lv, rfl, SliceAt.of_owns ho, b⟩
theorem ex_apply (B : Nat) (u1 u2 lv v : Value) (w : World) (g : BG B [(0, [tX], u1), (1, [nX], u2)] lv w) (h : NodesAt w v [vN 1]) : Calls Tryz.prog 23 #[lv, v] w fun e w' => ∃ x, e = .returned x ∧ NodesAt w' x [nX] ∧ Below w.heap.size w w' := by
  refine (apply_own B _ lv v [vN 1] w g (fun b hb => ?_) (fun b hb => ?_) (by simp) h (by decide) (by decide)).mono ?_
  · simp only [List.mem_cons, List.not_mem_nil, or_false] at hb
    rcases hb with rfl | rfl
    · show (-9223372036854775808 : Int) ≤ 0 ∧ (0 : Int) ≤ 9223372036854775807; decide
    · show (-9223372036854775808 : Int) ≤ 1 ∧ (1 : Int) ≤ 9223372036854775807; decide
  · simp only [List.mem_cons, List.not_mem_nil, or_false] at hb
    rcases hb with rfl | rfl
    · show ([tX] : List Nd).length ≤ 4000; decide
    · show ([nX] : List Nd).length ≤ 4000; decide
  · rintro e w' ⟨x, rfl, ho, b⟩
    exact ⟨x, rfl, SliceAt.of_owns ho, b⟩
theorem ex_same (u v : Value) (l : List Nd) (w : World) (h : NodesAt w u l) (k : NodesAt w v l) (hl : l.length ≤ 1000000) : Calls Tryz.prog 20 #[u, v] w fun e w' => e = .returned (.bool true) ∧ Below w.heap.size w w' := by
  refine (same_any u v l l w h k hl).mono ?_
  rintro e w' ⟨_, rfl, rfl, b⟩
  exact ⟨by rw [decide_eq_true rfl], b⟩
theorem ex_row (u v : Value) (l : List Int) (w : World) (h : IntsAt w u l) (k : IntsAt w v l) (hl : l.length ≤ 1000000) : Calls Tryz.prog 18 #[u, v] w fun e w' => e = .returned (.bool true) ∧ Below w.heap.size w w' := by
  refine (row_any u v l l w h k hl).mono ?_
  rintro e w' ⟨_, rfl, rfl, b⟩
  exact ⟨by rw [decide_eq_true rfl], b⟩
theorem nodes_lt {w : World} {v : Value} {l : List Nd} (h : NodesAt w v l) (h0 : 0 < l.length) : ∀ b o m c, v = .slice (some ⟨b, o, none⟩) m c → b < w.heap.size := fun b o m c e => by
  obtain ⟨g1, p, cap, e2, g2, g3, g4⟩ := h
  obtain ⟨b', off', rfl, gb, gc⟩ := g4 (by omega)
  rw [e2] at e
  simp only [Value.slice.injEq, Option.some.injEq, Addr.mk.injEq, and_true] at e
  omega
/-- A store that was told that the variable 5 is a number. -/
theorem ex_unify (sb mb : Nat) (D : DM) (va vb : Value) (w : World) (h : ST w.heap.size w S0 (fun _ => vT 0) [] sb mb 0 D 6 0) (ha : NodesAt w va [vN 5]) (hb : NodesAt w vb [nX]) (oa : ∀ b o m c, va = .slice (some ⟨b, o, none⟩) m c → b ≠ mb) (ob : ∀ b o m c, vb = .slice (some ⟨b, o, none⟩) m c → b ≠ mb) :
    Calls Tryz.prog 41 #[pv sb, va, vb] w fun e w' => e = .returned (.int .i64 0) ∧ Frm (DU S0 sb mb) w.heap.size w w' ∧ ∃ S' tr' m' D', ST w'.heap.size w' S' tr' [((vN 5, F.nil), (nX, F.nil))] sb mb m' D' 6 2 ∧ ∀ x ∈ S'.dom, w.heap.size ≤ x := by
  refine (sunify_any S0 (fun _ => vT 0) [] sb mb 0 D 6 0 va vb [vN 5] [nX] w h ha hb (fun b o m c e => ⟨fun h => n1 h, oa b o m c e⟩) (fun b o m c e => ⟨fun h => n1 h, ob b o m c e⟩) (by decide) (by decide) (small_of (by decide)) (small_of (by decide)) (by decide) (by decide) (by decide)).mono ?_
  intro e w' hu
  have o5 : okF (.cons (vN 5) .nil .nil) := ⟨.inl ⟨rfl, rfl, by decide, rfl⟩, trivial, trivial⟩
  have oN : okF (.cons nX .nil .nil) := ⟨.inr ⟨rfl, rfl⟩, trivial, trivial⟩
  cases hu with
  | form hb he b => rw [show tyB [vN 5] = true by decide +kernel, show tyB [nX] = true by decide +kernel] at hb; exact absurd hb (by decide)
  | clash na nb ka kb ea eb oa' ob' he hn fr =>
    obtain ⟨rfl, rfl⟩ := tree_inj o5 oa' ea
    obtain ⟨rfl, rfl⟩ := tree_inj oN ob' eb
    refine absurd (fun e he => ?_) (hn fun v => (nX, F.nil))
    rw [List.mem_singleton] at he
    subst he
    rfl
  | ok na nb ka kb ea eb oa' ob' he S' tr' m' D' st hw hm hd fr =>
    obtain ⟨rfl, rfl⟩ := tree_inj o5 oa' ea
    obtain ⟨rfl, rfl⟩ := tree_inj oN ob' eb
    exact ⟨he, fr, S', tr', m', D', st, fun x hx => (hd x hx).resolve_left fun h => n1 h⟩
theorem ex_resolve (S : SS) (tr : Nat → T) (sb mb m : Nat) (D : DM) (tv : Value) (w : World) (h : ST w.heap.size w S tr [((vN 5, F.nil), (nX, F.nil))] sb mb m D 6 2) (hns : NodesAt w tv [vN 5]) (off : ∀ b o m c, tv = .slice (some ⟨b, o, none⟩) m c → b ∉ S.dom) :
    Calls Tryz.prog 42 #[pv sb, tv] w fun e w' => ∃ x, e = .returned (.tuple #[x, .int .i64 0]) ∧ NodesAt w' x [nX] ∧ Frm S.D w.heap.size w w' := by
  refine (resolve_any S tr _ sb mb m D 6 2 tv [vN 5] w h hns (by decide) (small_of (by decide)) off).mono ?_
  have hm := mguR (sol_mgu h.core.ok h.core.sol h.core.acc)
  intro e w' hr
  cases hr with
  | form ht => rw [show tyB [vN 5] = true by decide +kernel] at ht; exact absurd ht (by decide)
  | great ht hg => rw [hm] at hg; exact absurd hg (by decide)
  | ok ht hg v he own fr tw =>
    rw [hm] at own
    exact ⟨v, he, SliceAt.of_owns own, fr⟩
set_option maxHeartbeats 2000000 in
theorem awake_any (w : World) (htab : TabW w) : Calls Tryz.prog 9 #[] w (BRet w true) := by
  have TAB := Lib.hid htab
  have E : Hid (∀ w', Below w.heap.size w w' → BRet w true (.returned (.bool true)) w') := Lib.hid fun w' b => ⟨true, rfl, rfl, b⟩
  have N0 : Hid (NodesAt (w.alloc (.cells #[.int .i64 32, .string ⟨#[105, 110, 116]⟩, .int .i64 0, .int .i64 0] 58)) (.slice (some ⟨w.heap.size, 0, none⟩) 1 1) [nX]) := Lib.hid (node_new w nX)
  have T0 : Hid (NodesAt ((w.alloc (.cells #[.int .i64 32, .string ⟨#[105, 110, 116]⟩, .int .i64 0, .int .i64 0] 58)).alloc (.cells #[.int .i64 32, .string ⟨#[116, 101, 120, 116]⟩, .int .i64 0, .int .i64 0] 58)) (.slice (some ⟨w.heap.size + 1, 0, none⟩) 1 1) [tX]) := Lib.hid (by
    have := node_new (w.alloc (.cells #[.int .i64 32, .string ⟨#[105, 110, 116]⟩, .int .i64 0, .int .i64 0] 58)) tX
    rw [show (w.alloc (.cells #[.int .i64 32, .string ⟨#[105, 110, 116]⟩, .int .i64 0, .int .i64 0] 58)).heap.size = w.heap.size + 1 by simp] at this
    exact this)
  obtain ⟨w2, hw2⟩ : ∃ w2, w2 = (w.alloc (.cells #[.int .i64 32, .string ⟨#[105, 110, 116]⟩, .int .i64 0, .int .i64 0] 58)).alloc (.cells #[.int .i64 32, .string ⟨#[116, 101, 120, 116]⟩, .int .i64 0, .int .i64 0] 58) := ⟨_, rfl⟩
  have B2 : Hid (Below w.heap.size w w2) := Lib.hid (by rw [hw2]; exact below_two w _ _)
  have N2 : Hid (NodesAt w2 (.slice (some ⟨w.heap.size, 0, none⟩) 1 1) [nX]) := Lib.hid (by rw [hw2]; exact N0.out.below ((Below.refl _ _).alloc (Nat.le_refl _) _))
  have T2 : Hid (NodesAt w2 (.slice (some ⟨w.heap.size + 1, 0, none⟩) 1 1) [tX]) := Lib.hid (by rw [hw2]; exact T0.out)
  have HW := Lib.hid hw2
  clear htab N0 T0 hw2
  go_enter Tryz.func9, Tryz.ntmps9
  go_wp2_with fail
  rw [← HW.out]
  clear HW
  generalize (Value.slice (some ⟨w.heap.size, 0, none⟩) 1 1) = nv at *
  generalize (Value.slice (some ⟨w.heap.size + 1, 0, none⟩) 1 1) = tv at *
  refine (lvar_any 0 w2).mono ?_
  rintro e w3 ⟨b3, m3, c3, rfl, _, v3, bb3⟩
  have B3 := Lib.hid (B2.out.trans (bb3.mono B2.out.size))
  have N3 := Lib.hid (N2.out.below bb3)
  have T3 := Lib.hid (T2.out.below bb3)
  have C4 := Lib.hid (fun_any _ _ _ _ w3 v3 N3.out (by decide))
  clear v3 bb3 N2 T2
  go_wp2_with fail
  refine C4.out.mono ?_
  rintro e w4 ⟨v4, rfl, h4, bb4⟩
  have B4 := Lib.hid (B3.out.trans (bb4.mono B3.out.size))
  have N4 := Lib.hid (N3.out.below bb4)
  have T4 := Lib.hid (T3.out.below bb4)
  have H4 := Lib.hid (show NodesAt w4 v4 [aX, vN 0, nX] from h4)
  clear h4 bb4 N3 T3 C4
  go_wp2_with fail
  refine (lvar_any 1 w4).mono ?_
  rintro e w5 ⟨b5, m5, c5, rfl, _, v5, bb5⟩
  have B5 := Lib.hid (B4.out.trans (bb5.mono B4.out.size))
  have N5 := Lib.hid (N4.out.below bb5)
  have T5 := Lib.hid (T4.out.below bb5)
  have H5 := Lib.hid (H4.out.below bb5)
  have C6 := Lib.hid (fun_any _ _ _ _ w5 T5.out v5 (by decide))
  clear v5 bb5 N4 T4 H4
  go_wp2_with fail
  refine C6.out.mono ?_
  rintro e w6 ⟨v6, rfl, h6, bb6⟩
  have B6 := Lib.hid (B5.out.trans (bb6.mono B5.out.size))
  have N6 := Lib.hid (N5.out.below bb6)
  have T6 := Lib.hid (T5.out.below bb6)
  have C7 := Lib.hid (uy_out v4 v6 [aX, vN 0, nX] [aX, tX, vN 1] w6 (H5.out.below bb6) h6 (by decide) (by decide) (small_of (by decide)) (small_of (by decide)))
  clear h6 bb6 N5 T5 H5 C6
  go_wp2_with fail
  refine C7.out.mono ?_
  rintro e w7 ⟨c7, bs, lv, rfl, o7, g7, bb7⟩
  obtain ⟨rfl, hbs⟩ := o7.det outA
  obtain ⟨u1, u2, rfl⟩ := prs_two hbs
  have B7 := Lib.hid (B6.out.trans (bb7.mono B6.out.size))
  have N7 := Lib.hid (N6.out.below bb7)
  have T7 := Lib.hid (T6.out.below bb7)
  obtain ⟨lq, lc, rfl⟩ := row_form g7.1
  have G7 := Lib.hid g7
  clear o7 hbs g7 bb7 N6 T6 C7
  have C8 := Lib.hid (uy_out nv tv [nX] [tX] w7 N7.out T7.out (by decide) (by decide) (small_of (by decide)) (small_of (by decide)))
  go_wp2_with fail
  refine C8.out.mono ?_
  rintro e w8 ⟨c8, bs8, lv8, rfl, o8, _, bb8⟩
  obtain ⟨rfl, _⟩ := o8.det outB
  have B8 := Lib.hid (B7.out.trans (bb8.mono B7.out.size))
  have N8 := Lib.hid (N7.out.below bb8)
  have T8 := Lib.hid (T7.out.below bb8)
  have B78 := Lib.hid bb8
  clear o8 bb8 N7 T7 C8
  go_wp2_with fail
  refine (lvar_any 3 w8).mono ?_
  rintro e w9 ⟨b9, m9, c9, rfl, _, v9, bb9⟩
  have B9 := Lib.hid (B8.out.trans (bb9.mono B8.out.size))
  have N9 := Lib.hid (N8.out.below bb9)
  have T9 := Lib.hid (T8.out.below bb9)
  have B79 := Lib.hid (B78.out.trans (bb9.mono B78.out.size))
  have C10 := Lib.hid (fun_any _ _ _ _ w9 v9 N9.out (by decide))
  clear v9 bb9 N8 T8 B78
  go_wp2_with fail
  refine C10.out.mono ?_
  rintro e w10 ⟨v10, rfl, h10, bb10⟩
  have B10 := Lib.hid (B9.out.trans (bb10.mono B9.out.size))
  have N10 := Lib.hid (N9.out.below bb10)
  have T10 := Lib.hid (T9.out.below bb10)
  have B710 := Lib.hid (B79.out.trans (bb10.mono B79.out.size))
  have C11 := Lib.hid (fun_any _ _ _ _ w10 h10 T10.out (by decide))
  clear h10 bb10 N9 T9 B79 C10
  go_wp2_with fail
  refine C11.out.mono ?_
  rintro e w11 ⟨v11, rfl, h11, bb11⟩
  have B11 := Lib.hid (B10.out.trans (bb11.mono B10.out.size))
  have N11 := Lib.hid (N10.out.below bb11)
  have T11 := Lib.hid (T10.out.below bb11)
  have B711 := Lib.hid (B710.out.trans (bb11.mono B710.out.size))
  have C12 := Lib.hid (ex_show v11 w11 h11 (fun w' b => TAB.out w' (B11.out.trans (b.mono B11.out.size))))
  clear h11 bb11 N10 T10 B710 C11
  go_wp2_with fail
  refine C12.out.mono ?_
  rintro e w12 ⟨rfl, bb12⟩
  have B12 := Lib.hid (B11.out.trans (bb12.mono B11.out.size))
  have N12 := Lib.hid (N11.out.below bb12)
  have T12 := Lib.hid (T11.out.below bb12)
  have B712 := Lib.hid (B711.out.trans (bb12.mono B711.out.size))
  clear bb12 N11 T11 B711 C12
  have C13 := Lib.hid (newstore_any 5 w12)
  unfold pv at C13
  go_wp2_with fail
  refine C13.out.mono ?_
  rintro e w13 ⟨rfl, st13, bb13⟩
  have X13 := Lib.hid bb13
  have F14 := fresh_any _ _ _ _ _ _ _ _ _ w13 st13 (by decide) (by decide)
  unfold pv at F14
  have C14 := Lib.hid F14
  have hsz := Lib.hid (show w12.heap.size + 1 < w13.heap.size from (Array.getElem?_eq_some_iff.1 st13.sbk).1)
  clear st13 bb13 C13 F14
  go_wp2_with fail
  refine C14.out.mono ?_
  rintro e w14 ⟨b14, m14, c14, rfl, hb14, v14, st14, fr14⟩
  have X14 := Lib.hid (X13.out.trans (fr14.below X13.out.size fun k hk hd => by
    have hd : k = w12.heap.size + 1 := hd
    omega))
  have hlt14 := Lib.hid (nodes_lt v14 (by decide) _ _ _ _ rfl)
  have C15 := ex_unify _ _ _ _ nv w14 st14 v14 (N12.out.below X14.out) (fun b o m c e => by
    simp only [Value.slice.injEq, Option.some.injEq, Addr.mk.injEq, and_true] at e
    have := hsz.out
    obtain ⟨⟨rfl, _⟩, _⟩ := e
    omega) (fun b o m c e => by have := nodes_lt N12.out (by decide) b o m c e; omega)
  unfold pv at C15
  have C15 := Lib.hid C15
  have V14 := Lib.hid v14
  have HB14 := Lib.hid hb14
  clear v14 st14 fr14 C14 hb14
  go_wp2_with fail
  refine C15.out.mono ?_
  rintro e w15 ⟨rfl, fr15, S', tr', m', D', st15, hd15⟩
  have X15 := Lib.hid (X14.out.trans (fr15.below X14.out.size fun k hk hd => by
    rcases hd with h | h | h
    · exact n1 h
    · omega
    · omega))
  have V15 : Hid (NodesAt w15 (.slice (some ⟨b14, 0, none⟩) m14 c14) [vN 5]) := Lib.hid (V14.out.keep fr15.size fun b o m c e hb => fr15.block b hb fun hd => by
    simp only [Value.slice.injEq, Option.some.injEq, Addr.mk.injEq, and_true] at e
    have h1 := HB14.out
    have h2 := hsz.out
    obtain ⟨⟨rfl, _⟩, _⟩ := e
    rcases hd with h | h | h
    · exact n1 h
    · omega
    · omega)
  have C16 := ex_resolve _ _ _ _ _ _ _ w15 st15 V15.out (fun b o m c e h => by
    simp only [Value.slice.injEq, Option.some.injEq, Addr.mk.injEq, and_true] at e
    obtain ⟨⟨rfl, _⟩, _⟩ := e
    have := hd15 _ h
    have := hlt14.out
    omega)
  unfold pv at C16
  have C16 := Lib.hid C16
  have HD15 := Lib.hid hd15
  have X1415 := Lib.hid fr15.size
  clear st15 fr15 C15 V14 hd15
  go_wp2_with fail
  refine C16.out.mono ?_
  rintro e w16 ⟨x16, rfl, v16, fr16⟩
  have X16 := Lib.hid (X15.out.trans (fr16.below X15.out.size fun k hk hd => by
    have h1 := HD15.out k hd
    have h2 := X14.out.size
    omega))
  have V16 : Hid (NodesAt w16 (.slice (some ⟨b14, 0, none⟩) m14 c14) [vN 5]) := Lib.hid (V15.out.keep fr16.size fun b o m c e hb => fr16.block b hb fun hd => by
    simp only [Value.slice.injEq, Option.some.injEq, Addr.mk.injEq, and_true] at e
    obtain ⟨⟨rfl, _⟩, _⟩ := e
    have h1 := HD15.out _ hd
    have h2 := hlt14.out
    omega)
  have N16 := Lib.hid (N12.out.below X16.out)
  have T16 := Lib.hid (T12.out.below X16.out)
  have B16 := Lib.hid (B12.out.trans (X16.out.mono B12.out.size))
  have B716 := Lib.hid (B712.out.trans (X16.out.mono B712.out.size))
  have R16 := Lib.hid v16
  clear v16 fr16 C16 N12 T12 B12 B712 X13 X14 X15 X16 V15 HD15 hlt14 hsz HB14 X1415
  have G16 := Lib.hid (fun W (b : Below w16.heap.size w16 W) => G7.out.keep fun g cur T hg hh _ => ((B716.out.trans (b.mono B716.out.size)).block g (Array.getElem?_eq_some_iff.1 hh).1))
  have gg := G16.out w16 (Below.refl _ _)
  obtain ⟨_, lp, lc', e', _, _, g4⟩ := SliceAt.of_owns gg.1
  obtain ⟨lb, lo, rfl, hlb, hlc⟩ := g4 (by simp)
  simp only [Value.slice.injEq] at e'
  obtain ⟨rfl, _, rfl⟩ := e'
  have d1 := hlc 1 u1 rfl
  have d3 := hlc 3 u2 rfl
  have U1 : Hid (NodesAt w16 u1 [tX]) := Lib.hid (SliceAt.of_owns (gg.2 (0, [tX], u1) (by simp)))
  have U2 : Hid (NodesAt w16 u2 [nX]) := Lib.hid (SliceAt.of_owns (gg.2 (1, [nX], u2) (by simp)))
  have hlb9 := hlb
  clear gg hlc g4 hlb G7 B716
  have S1 := Lib.hid (ex_same u1 tv [tX] w16 U1.out T16.out (by decide))
  unfold sStr
  go_wp2_with fail
  refine S1.out.mono ?_
  rintro e w17 ⟨rfl, bb17⟩
  have B17 := Lib.hid bb17
  have S2 := Lib.hid (ex_same u2 nv [nX] w17 (U2.out.below bb17) (N16.out.below bb17) (by decide))
  have e3 := (bb17.cell (p := ⟨lb, lo + 3, none⟩) hlb9).trans d3
  clear bb17 S1 d1
  go_wp2_with fail
  refine S2.out.mono ?_
  rintro e w18 ⟨rfl, bb18⟩
  have B18 := Lib.hid (B17.out.trans (bb18.mono B17.out.size))
  clear bb18 S2 B17 e3 d3
  go_wp2_with fail
  refine (lvar_any 5 w18).mono ?_
  rintro e w19 ⟨b19, m19, c19, rfl, _, v19, bb19⟩
  have B19 := Lib.hid (B18.out.trans (bb19.mono B18.out.size))
  have S3 := Lib.hid (ex_same _ _ [vN 5] w19 (V16.out.below B19.out) v19 (by decide))
  clear v19 bb19 B18
  go_wp2_with fail
  refine S3.out.mono ?_
  rintro e w20 ⟨rfl, bb20⟩
  have B20 := Lib.hid (B19.out.trans (bb20.mono B19.out.size))
  have S4 := Lib.hid (ex_same x16 nv [nX] w20 (R16.out.below B20.out) (N16.out.below B20.out) (by decide))
  clear bb20 S3 B19
  go_wp2_with fail
  refine S4.out.mono ?_
  rintro e w21 ⟨rfl, bb21⟩
  have B21 := Lib.hid (B20.out.trans (bb21.mono B20.out.size))
  have S5 := Lib.hid (ex_check nv w21 (N16.out.below B21.out))
  clear bb21 S4 B20
  go_wp2_with fail
  refine S5.out.mono ?_
  rintro e w22 ⟨rfl, bb22⟩
  have B22 := Lib.hid (B21.out.trans (bb22.mono B21.out.size))
  clear bb22 S5 B21
  go_wp2_with fail
  refine (lvar_any 4 w22).mono ?_
  rintro e w23 ⟨b23, m23, c23, rfl, _, v23, bb23⟩
  have B23 := Lib.hid (B22.out.trans (bb23.mono B22.out.size))
  have S6 := Lib.hid (ex_vars _ w23 v23)
  clear v23 bb23 B22
  go_wp2_with fail
  refine S6.out.mono ?_
  rintro e w24 ⟨x24, rfl, v24, bb24⟩
  have B24 := Lib.hid (B23.out.trans (bb24.mono B23.out.size))
  have BL : Hid (Below w24.heap.size w24 (w24.alloc (.cells #[.int .i64 4] 3))) := Lib.hid ((Below.refl _ _).alloc (Nat.le_refl _) _)
  have LIT : Hid (IntsAt (w24.alloc (.cells #[.int .i64 4] 3)) (.slice (some ⟨w24.heap.size, 0, none⟩) 1 1) [4]) := Lib.hid ⟨rfl, _, _, rfl, Nat.le_refl _, by unfold maxLen; omega, fun _ => ⟨_, _, rfl, by simp, lit_cells w24 #[.int .i64 4] 3⟩⟩
  have S7 := Lib.hid (ex_row x24 _ [4] _ (v24.below BL.out) LIT.out (by decide))
  have B25 := Lib.hid (B24.out.trans (BL.out.mono B24.out.size))
  clear v24 bb24 S6 B23 B24 LIT BL
  go_wp2_with fail
  refine S7.out.mono ?_
  rintro e w26 ⟨rfl, bb26⟩
  have B26 := Lib.hid (B25.out.trans (bb26.mono B25.out.size))
  clear bb26 S7 B25
  go_wp2_with fail
  refine (lvar_any 4 w26).mono ?_
  rintro e w27 ⟨b27, m27, c27, rfl, _, v27, bb27⟩
  have B27 := Lib.hid (B26.out.trans (bb27.mono B26.out.size))
  have S8 := Lib.hid (ex_canon _ w27 v27)
  clear v27 bb27 B26
  go_wp2_with fail
  refine S8.out.mono ?_
  rintro e w28 ⟨x28, rfl, v28, bb28⟩
  have B28 := Lib.hid (B27.out.trans (bb28.mono B27.out.size))
  have V28 := Lib.hid v28
  clear v28 bb28 S8 B27
  go_wp2_with fail
  refine (lvar_any 0 w28).mono ?_
  rintro e w29 ⟨b29, m29, c29, rfl, _, v29, bb29⟩
  have B29 := Lib.hid (B28.out.trans (bb29.mono B28.out.size))
  have S9 := Lib.hid (ex_same x28 _ [vN 0] w29 (V28.out.below bb29) v29 (by decide))
  clear v29 bb29 B28 V28
  go_wp2_with fail
  refine S9.out.mono ?_
  rintro e w30 ⟨rfl, bb30⟩
  have B30 := Lib.hid (B29.out.trans (bb30.mono B29.out.size))
  clear bb30 S9 B29
  go_wp2_with fail
  refine (lvar_any 1 w30).mono ?_
  rintro e w31 ⟨b31, m31, c31, rfl, _, v31, bb31⟩
  have B31 := Lib.hid (B30.out.trans (bb31.mono B30.out.size))
  have S10 := Lib.hid (ex_apply _ u1 u2 _ _ w31 (G16.out w31 B31.out) v31)
  clear v31 bb31 B30
  go_wp2_with fail
  refine S10.out.mono ?_
  rintro e w32 ⟨x32, rfl, v32, bb32⟩
  have B32 := Lib.hid (B31.out.trans (bb32.mono B31.out.size))
  have S11 := Lib.hid (ex_same x32 nv [nX] w32 v32 (N16.out.below B32.out) (by decide))
  clear v32 bb32 S10 B31
  go_wp2_with fail
  refine S11.out.mono ?_
  rintro e w33 ⟨rfl, bb33⟩
  have B33 := Lib.hid (E.out _ (B16.out.trans ((B32.out.trans (bb33.mono B32.out.size)).mono B16.out.size)))
  clear bb33 S11 B32
  go_wp2
  first | go_ret | skip
  exact B33.out
end Go.Proofs.YtncifeeinogcnaaGreatDoor
