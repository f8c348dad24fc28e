/- The contract of Flat. -/
import Derived.Test.YtkmgapieoedelaaFixQ
namespace Go.Proofs.Ytkmgapieoedelaa
open Go.Shelf Go.RowKit Go.Lib Go.Sort Go.Proofs.FixMath

/-- Two rows of the call's own, apart. -/
def Two (base : Nat) (w : World) (u v : Value) (a o : List Int) : Prop := IRow base w u a ∧ IRow base w v o ∧ ∀ g, u.ownBlock = some g → v.ownBlock ≠ some g
theorem Two.swap {base : Nat} {w : World} {u v : Value} {a o : List Int} (h : Two base w u v a o) : Two base w v u o a := ⟨h.2.1, h.1, fun g h1 h2 => h.2.2 g h2 h1⟩
theorem Two.after {base : Nat} {w w' : World} {u v : Value} {a o : List Int} (h : Two base w u v a o) (b : Below w.heap.size w w') : Two base w' u v a o := ⟨h.1.after b, h.2.1.after b, h.2.2⟩
theorem IRow.there {base : Nat} {w : World} {v : Value} {a : List Int} (h : IRow base w v a) {g : Nat} (hg : v.ownBlock = some g) : base ≤ g ∧ g < w.heap.size := World.ownsRow.there (show w.ownsRow base 3 1 v a.length (intCells a) from h) hg
theorem Two.put {base : Nat} {w wA w2 : World} {u : Value} {q q' : Option Addr} {m j j' : Nat} {a o : List Int} {x : Int} (h : Two base w u (.slice q m j) a o) (hm : o.length = m) (bA : Below w.heap.size w wA) (hown : w2.ownsRow base 3 1 (.slice q' (m + 1) j') (m + 1) (intCells o ++ [Value.int .i64 x])) (hgrow : wA.grownBy w2 (Value.slice q m j).ownBlock) (hblk : (Value.slice q' (m + 1) j').ownBlock = (Value.slice q m j).ownBlock ∨ (Value.slice q' (m + 1) j').ownBlock = some wA.heap.size) :
    Two base w2 u (.slice q' (m + 1) j') a (o ++ [x]) := by
  obtain ⟨h1, h2, h3⟩ := h
  have h1A := h1.after bA
  refine ⟨World.ownsRow.keep h1A fun g hg => hgrow.block g (h1A.there hg).2 ?_, ?_, fun g hg hg2 => ?_⟩
  · intro e
    exact h3 g hg e.symm
  · have := IRow.put hm hown
    rw [hm] at this
    exact this
  · rcases hblk with e | e
    · rw [e] at hg2; exact h3 g hg hg2
    · rw [e] at hg2
      simp at hg2
      have := (h1A.there hg).2
      omega
theorem Two.pop {base : Nat} {w : World} {u : Value} {q : Option Addr} {m j : Nat} {a o : List Int} (h : Two base w u (.slice q (m + 1) j) a o) (hm : o.length = m + 1) : Two base w u (.slice q m j) a o.dropLast := by
  obtain ⟨h1, h2, h3⟩ := h
  refine ⟨h1, ?_, by cases q <;> exact h3⟩
  have h4 : w.ownsRow base 3 1 (.slice q (m + 1) j) (m + 1) (intCells o) := by have := h2; unfold IRow at this; rw [hm] at this; exact this
  have hp : ∃ g, q = some ⟨g, 0, none⟩ := by
    rcases h4.2 with ⟨_, e⟩ | ⟨g, cap, cur, hv, _⟩
    · omega
    · simp only [Value.slice.injEq] at hv
      exact ⟨g, hv.1⟩
  have := World.ownsRow.pop h4 hp (show m ≤ m + 1 by omega)
  unfold IRow
  have hl : o.dropLast.length = m := by simp [hm]
  rw [hl]
  have e : intCells o.dropLast = (intCells o).take (m * 1) := by
    unfold intCells
    rw [List.dropLast_eq_take, List.map_take, hm]
    simp
  rw [e]
  exact this
theorem below_put {base : Nat} {w wA w2 W : World} {v : Value} {o : List Int} (hW : Below W.heap.size W w) (hB : W.heap.size ≤ base) (h : IRow base w v o) (bA : Below w.heap.size w wA) (hgrow : wA.grownBy w2 v.ownBlock) : Below W.heap.size W w2 :=
  (hW.trans (bA.mono hW.size)).grown hgrow (Nat.le_trans hW.size bA.size) fun _ hg => Nat.le_trans hB (h.there hg).1
theorem row_at {base : Nat} {w : World} {v : Value} {a : List Int} {n : Nat} (h : IRow base w v a) (hn : a.length = n) : w.ownsRow base 3 1 v n (intCells a) := by
  subst hn
  exact h
theorem run_push {x : Int} {l op acc : List Int} (h : 0 ≤ x) : runS (x :: l) op acc = runS l (op ++ [x]) acc := by rw [runS, if_pos h]
theorem run_done {x : Int} {l acc : List Int} (h : ¬ 0 ≤ x) : runS (x :: l) [] acc = some (acc ++ [x], l) := by rw [runS, if_neg h, if_pos rfl]
theorem run_pop {x : Int} {l op acc : List Int} (h : ¬ 0 ≤ x) (ho : op ≠ []) : runS (x :: l) op acc = runS l op.dropLast (acc ++ [x] ++ [op.getLastD 0]) := by rw [runS, if_neg h, if_neg ho]
theorem drop_int {l : List Int} {k : Nat} (h : k < l.length) : l.drop k = l.getD k 0 :: l.drop (k + 1) := by
  rw [List.getD_eq_getElem?_getD, List.getElem?_eq_getElem h]
  exact List.drop_eq_getElem_cons h
set_option maxRecDepth 100000 in
set_option maxHeartbeats 4000000 in
theorem flat_go (b off n c : Nat) (l : List Int) (w : World) (hl : Hid (l.length = n)) (h0 : 0 < n) (hn : n ≤ 1000000) (hb : b < w.heap.size) (hc : Hid (CellsIn w b off (intCells l))) : Calls Try.prog 25 #[.slice (some ⟨b, off, none⟩) n c] w (BRes (flatA l) w) := by
  obtain ⟨i0, hi, hz0, hz1, hz2⟩ := infoInt
  have HI := Lib.hid (And.intro hi (And.intro hz0 (And.intro hz1 hz2)))
  clear hi hz0 hz1 hz2
  have RN := Lib.hid (@runS_none l)
  have RS := Lib.hid (fun a r h => @runS_some l a r h)
  obtain ⟨R, hR⟩ : ∃ R, R = runS l [] [] := ⟨_, rfl⟩
  rw [← hR] at RN RS
  have HR := Lib.hid hR
  clear hR
  go_enter Try.func25, Try.ntmps25
  go_wp2
  go_loopw [4, 5, 6] (fun s4 s5 s6 wr => ∃ (k p1 p2 : Nat) (q1 q2 : Option Addr) (c1 c2 : Nat) (acc op : List Int), k ≤ n ∧ s6 = .int .i64 k ∧ s4 = .slice q1 p1 c1 ∧ s5 = .slice q2 p2 c2 ∧ acc.length = p1 ∧ op.length = p2 ∧ p1 ≤ 2 * k ∧ p2 ≤ k ∧ Two w.heap.size wr (.slice q1 p1 c1) (.slice q2 p2 c2) acc op ∧ Below w.heap.size w wr ∧ runS (l.drop k) op acc = R) (fun _ _ s6 _ => n - (intOf s6).toNat)
  case atStart => exact ⟨0, 0, 0, none, none, 0, 0, [], [], Nat.zero_le _, rfl, rfl, rfl, rfl, rfl, by omega, by omega, ⟨IRow.nil _ _, IRow.nil _ _, fun g h => by cases h⟩, Below.refl _ _, by rw [List.drop_zero]; exact HR.out.symm⟩
  case round =>
    obtain ⟨wo, hwo⟩ : ∃ wo : World, wo = wr := ⟨_, rfl⟩
    subst hwo
    obtain ⟨k, p1, p2, q1, q2, c1, c2, acc, op, hk, rfl, rfl, rfl, ha, ho, hp1, hp2, htwo, hbel, hrun⟩ := hrel
    have HA := Lib.hid ha
    have HO := Lib.hid ho
    have HT := Lib.hid htwo
    have HB := Lib.hid hbel
    have HRUN := Lib.hid hrun
    clear ha ho htwo hrun
    by_cases hlt : k < n
    · have a1 := (hc.out.below hb hbel).int k (by rw [hl.out]; exact hlt)
      have DR := Lib.hid (drop_int (l := l) (k := k) (by rw [hl.out]; exact hlt))
      obtain ⟨x, hx⟩ : ∃ x, x = l.getD k 0 := ⟨_, rfl⟩
      rw [← hx] at a1 DR
      have HRUN2 := Lib.hid HRUN.out
      rw [DR.out] at HRUN2
      have s1 : (k : Int) < (n : Int) := by omega
      have BA : Hid (Below wo.heap.size wo (wo.alloc (.cells #[.int .i64 x] 3))) := Lib.hid ((Below.refl _ _).alloc (Nat.le_refl _) _)
      have T2 := Lib.hid (HT.out.after BA.out)
      clear hx DR hbel
      by_cases g1 : 0 ≤ x
      · have E := Lib.hid ((run_push g1).symm.trans HRUN2.out)
        have OWN : Hid ((wo.alloc (.cells #[.int .i64 x] 3)).ownsRow w.heap.size 3 1 (.slice q2 p2 c2) p2 (intCells op)) := Lib.hid (by have := T2.out.2.1; unfold IRow at this; rw [HO.out] at this; exact this)
        have HM : Hid (p2 + 1 ≤ maxLen ∧ (p2 + 1) * 8 ≤ 140737488355328) := Lib.hid ⟨by unfold maxLen; omega, by omega⟩
        go_wp2_with (at_builtin; refine wpList_append_any _ rfl _ _ 38 rfl w.heap.size 3 i0 (.int .i64 0) 1 8 Try.underlying38 HI.out.1 HI.out.2.1 HI.out.2.2.1 HI.out.2.2.2 rfl (by decide) (.slice q2 p2 c2) p2 (intCells op) rfl OWN.out (some ⟨wo.heap.size, 0, none⟩) 1 1 [.int .i64 x] rfl rfl (fun _ => ⟨_, rfl, cell_one_new _ _ _⟩) (one_int _) HM.out.1 HM.out.2 (Nat.le_trans HB.out.size BA.out.size) ?_; intro p' cap' w2 hown hgrow hblk; have TW := Lib.hid (HT.out.put HO.out BA.out hown hgrow hblk); have BW := Lib.hid (below_put HB.out (Nat.le_refl _) HT.out.2.1 BA.out hgrow); clear hown hgrow hblk)
        go_roundw
        case rel => exact ⟨k + 1, p1, p2 + 1, q1, p', c1, cap', acc, op ++ [x], by omega, by go_num, rfl, rfl, HA.out, by rw [List.length_append, HO.out]; rfl, by omega, by omega, TW.out, BW.out, E.out⟩
        case measure => simp [intOf]; omega
      · have OWA : Hid ((wo.alloc (.cells #[.int .i64 x] 3)).ownsRow w.heap.size 3 1 (.slice q1 p1 c1) p1 (intCells acc)) := Lib.hid (by have := T2.out.1; unfold IRow at this; rw [HA.out] at this; exact this)
        have HM : Hid (p1 + 1 ≤ maxLen ∧ (p1 + 1) * 8 ≤ 140737488355328) := Lib.hid ⟨by unfold maxLen; omega, by omega⟩
        have d1 : decide (0 ≤ x) = false := by simpa using g1
        rcases p2 with _ | m
        · have ho0 : op = [] := List.eq_nil_of_length_eq_zero HO.out
          subst ho0
          have E := Lib.hid ((run_done g1).symm.trans HRUN2.out)
          by_cases hk1 : k + 1 = n
          · have F : Hid (flatA l = some (acc ++ [x])) := Lib.hid (by
              rw [RS.out _ _ E.out.symm, List.drop_of_length_le (by rw [hl.out]; omega), if_pos rfl])
            have d2 : ((k : Int) != (n : Int) - 1) = false := by simp; omega
            have d3 : ((k : Int) == (n : Int) - 1) = true := by simp; omega
            clear g1 hk1
            go_wp2_with (at_builtin; refine wpList_append_any _ rfl _ _ 38 rfl w.heap.size 3 i0 (.int .i64 0) 1 8 Try.underlying38 HI.out.1 HI.out.2.1 HI.out.2.2.1 HI.out.2.2.2 rfl (by decide) (.slice q1 p1 c1) p1 (intCells acc) rfl OWA.out (some ⟨wo.heap.size, 0, none⟩) 1 1 [.int .i64 x] rfl rfl (fun _ => ⟨_, rfl, cell_one_new _ _ _⟩) (one_int _) HM.out.1 HM.out.2 (Nat.le_trans HB.out.size BA.out.size) ?_; intro p' cap' w2 hown hgrow hblk; have TW := Lib.hid (HT.out.swap.put HA.out BA.out hown hgrow hblk); have BW := Lib.hid (below_put HB.out (Nat.le_refl _) HT.out.1 BA.out hgrow); clear hown hgrow hblk)
            go_ret2
            rw [F.out]
            exact ⟨BW.out, .slice p' (p1 + 1) cap', rfl, TW.out.2.1.at⟩
          · have F : Hid (flatA l = none) := Lib.hid (by
              rw [RS.out _ _ E.out.symm, if_neg (by intro e; have := congrArg List.length e; simp [hl.out] at this; omega)])
            have d2 : ((k : Int) != (n : Int) - 1) = true := by simp; omega
            have d3 : ((k : Int) == (n : Int) - 1) = false := by simp; omega
            clear g1 hk1
            go_wp2_with (at_builtin; refine wpList_append_any _ rfl _ _ 38 rfl w.heap.size 3 i0 (.int .i64 0) 1 8 Try.underlying38 HI.out.1 HI.out.2.1 HI.out.2.2.1 HI.out.2.2.2 rfl (by decide) (.slice q1 p1 c1) p1 (intCells acc) rfl OWA.out (some ⟨wo.heap.size, 0, none⟩) 1 1 [.int .i64 x] rfl rfl (fun _ => ⟨_, rfl, cell_one_new _ _ _⟩) (one_int _) HM.out.1 HM.out.2 (Nat.le_trans HB.out.size BA.out.size) ?_; intro p' cap' w2 hown hgrow hblk; have TW := Lib.hid (HT.out.swap.put HA.out BA.out hown hgrow hblk); have BW := Lib.hid (below_put HB.out (Nat.le_refl _) HT.out.1 BA.out hgrow); clear hown hgrow hblk)
            go_ret2
            rw [F.out]
            exact BRes.none' BW.out
        · have E := Lib.hid ((run_pop g1 (by intro e; have := HO.out; rw [e] at this; simp at this)).symm.trans HRUN2.out)
          obtain ⟨gb, rfl⟩ : ∃ gb, q2 = some ⟨gb, 0, none⟩ := by
            have := HT.out.2.1
            unfold IRow at this
            rw [HO.out] at this
            rcases this.2 with ⟨_, e⟩ | ⟨g, cap, cur, hv, _⟩
            · omega
            · simp only [Value.slice.injEq] at hv
              exact ⟨g, hv.1⟩
          obtain ⟨y, hy⟩ : ∃ y, y = op.getLastD 0 := ⟨_, rfl⟩
          rw [← hy] at E
          have CY : Hid (∀ w', IRow w.heap.size w' (.slice (some ⟨gb, 0, none⟩) (m + 1) c2) op → w'.cell? ⟨gb, m, none⟩ = some (.int .i64 y)) := Lib.hid fun w' h => by
            obtain ⟨b9, o9, he, _, hcc⟩ := ints_at h.at (Nat.succ_pos m)
            simp only [Option.some.injEq, Addr.mk.injEq] at he
            obtain ⟨rfl, rfl, _⟩ := he
            have := hcc.int m (by rw [HO.out]; omega)
            rw [Nat.zero_add] at this
            rw [this, hy]
            congr 2
            rw [List.getLastD_eq_getLast?, List.getLast?_eq_getElem?, HO.out, List.getD_eq_getElem?_getD]
            rfl
          have HM2 : Hid (p1 + 1 + 1 ≤ maxLen ∧ (p1 + 1 + 1) * 8 ≤ 140737488355328) := Lib.hid ⟨by unfold maxLen; omega, by omega⟩
          have z1 : IntKind.i64.wrap (((m + 1 : Nat) : Int) - 1) = (m : Int) := by rw [IntWalk.i64_in _ (by omega)]; omega
          have z2 : m < m + 1 := by omega
          have z3 : (m : Int) < ((m + 1 : Nat) : Int) := by omega
          have d2 : (((m + 1 : Nat) : Int) == 0) = false := by simp; omega
          have hcm : m ≤ c2 := by
            have := HT.out.2.1
            unfold IRow at this
            rw [HO.out] at this
            rcases this.2 with ⟨_, e⟩ | ⟨g, cap, cur, hv, _, _, hn2, _⟩
            · omega
            · simp only [Value.slice.injEq] at hv
              omega
          clear g1 hy
          go_wp2_with (at_builtin; (first
            | (refine wpList_append_any _ rfl (.tmp 25) (.tmp 30) 38 rfl w.heap.size 3 i0 (.int .i64 0) 1 8 Try.underlying38 HI.out.1 HI.out.2.1 HI.out.2.2.1 HI.out.2.2.2 rfl (by decide) (.slice q1 p1 c1) p1 (intCells acc) rfl OWA.out (some ⟨wo.heap.size, 0, none⟩) 1 1 [.int .i64 x] rfl rfl (fun _ => ⟨_, rfl, cell_one_new _ _ _⟩) (one_int _) HM.out.1 HM.out.2 (Nat.le_trans HB.out.size BA.out.size) ?_; intro p' cap' w2 hown hgrow hblk; have TW := Lib.hid (HT.out.swap.put HA.out BA.out hown hgrow hblk).swap; have BW := Lib.hid (below_put HB.out (Nat.le_refl _) HT.out.1 BA.out hgrow); clear hown hgrow hblk; have cy := CY.out _ TW.out.2.1)
            | (refine wpList_append_any _ rfl (.tmp 35) (.tmp 42) 38 rfl w.heap.size 3 i0 (.int .i64 0) 1 8 Try.underlying38 HI.out.1 HI.out.2.1 HI.out.2.2.1 HI.out.2.2.2 rfl (by decide) (.slice p' (p1 + 1) cap') (p1 + 1) (intCells (acc ++ [x])) rfl (row_at (TW.out.after ((Below.refl _ _).alloc (Nat.le_refl _) _)).1 (by rw [List.length_append, HA.out]; rfl)) (some ⟨w2.heap.size, 0, none⟩) 1 1 [.int .i64 y] rfl rfl (fun _ => ⟨_, rfl, cell_one_new _ _ _⟩) (one_int _) HM2.out.1 HM2.out.2 (Nat.le_trans BW.out.size (by simp)) ?_; intro p5 cap5 w3 hown hgrow hblk; have TW2 := Lib.hid (TW.out.swap.put (by rw [List.length_append, HA.out]; rfl) ((Below.refl _ _).alloc (Nat.le_refl _) _) hown hgrow hblk).swap; have BW2 := Lib.hid (below_put BW.out (Nat.le_refl _) TW.out.1 ((Below.refl _ _).alloc (Nat.le_refl _) _) hgrow); clear hown hgrow hblk)))
          go_roundw
          case rel => exact ⟨k + 1, p1 + 1 + 1, m, p5, some ⟨gb, 0, none⟩, cap5, c2, acc ++ [x] ++ [y], op.dropLast, by omega, by go_num, rfl, rfl, by simp [HA.out], by simp [HO.out], by omega, by omega, TW2.out.pop HO.out, BW2.out, E.out⟩
          case measure => simp [intOf]; omega
    · have e1 : R = none := by
        rw [← HRUN.out, List.drop_of_length_le (by rw [hl.out]; omega)]
        rfl
      have F := Lib.hid (RN.out e1)
      have d2 : ((k : Int) != (n : Int) - 1) = true := by simp; omega
      have d3 : ((k : Int) == (n : Int) - 1) = false := by simp; omega
      clear e1 hbel
      go_wp2
      go_ret2
      rw [F.out]
      exact BRes.none' HB.out
theorem flat_zero (p : Option Addr) (c : Nat) (w : World) : Calls Try.prog 25 #[.slice p 0 c] w (BRes none w) := by
  go_enter Try.func25, Try.ntmps25
  go_wp2
  refine wp_loop_rounds 1 ?_
  rw [rounds_succ]
  go_wp2
  go_ret2
  exact BRes.none' (Below.refl _ _)
theorem flat_any (v : Value) (l : List Int) (w : World) (h : IntsAt w v l) (hn : l.length ≤ 1000000) : Calls Try.prog 25 #[v] w (BRes (flatA l) w) := by
  obtain ⟨_, p, c, rfl, _, _, hp⟩ := h
  rcases l with _ | ⟨x, l⟩
  · exact flat_zero p c w
  · obtain ⟨b, off, rfl, hb, hc⟩ := hp (by simp)
    exact flat_go b off _ c (x :: l) w (Lib.hid rfl) (by simp) hn hb (Lib.hid hc)
end Go.Proofs.Ytkmgapieoedelaa
