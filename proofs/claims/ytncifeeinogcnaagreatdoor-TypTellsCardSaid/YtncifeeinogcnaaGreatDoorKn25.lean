/- Texts of this seat, one behind the other: Nex, CaA, CaB, LwA. -/
import Derived.Test.YtncifeeinogcnaaGreatDoorKn19
import Derived.Test.YtncifeeinogcnaaGreatDoorKn05
import Derived.Test.YtncifeeinogcnaaGreatDoorKn24
/- A new list of nodes is one's own. -/
set_option maxRecDepth 100000
namespace Go.Proofs.YtncifeeinogcnaaGreatDoor
open Go.RowKit Go.Proofs.TreeMath
def NOwn (W : World) (ns : List Nd) (e : Ending) (w' : World) : Prop := ∃ v, e = .returned v ∧ w'.ownsRow W.heap.size 58 4 v ns.length (nodeCells ns) ∧ Below W.heap.size W w'
set_option maxHeartbeats 2000000 in
theorem join_own (b off c : Nat) (Ls : List (List Nd)) (w : World) (hb : b < w.heap.size) (hL : Hid (Lists w b off Ls)) (hn : Ls.flatten.length ≤ 1000000) (hc : Ls.length ≤ 5000) :
    Calls Tryz.prog 122 #[.slice (some ⟨b, off, none⟩) Ls.length c] w (NOwn w Ls.flatten) := by
  obtain ⟨i0, hi, hz0, hz1, hz2⟩ := infoNode
  have HI := Lib.hid (And.intro hi (And.intro hz0 (And.intro hz1 hz2)))
  clear hi hz0 hz1 hz2
  obtain ⟨N, hN⟩ : ∃ N, N = Ls.flatten.length := ⟨_, rfl⟩
  have hn' : N ≤ 1000000 := by omega
  have HN := Lib.hid hN
  clear hN hn
  go_enter Tryz.func122, Tryz.ntmps122
  go_wp2
  go_loop [3, 12] (fun s i => ∃ k S : Nat, k ≤ Ls.length ∧ i = .int .i64 k ∧ s = .int .i64 S ∧ S = sumTo Ls k) (fun _ i => Ls.length - (intOf i).toNat)
  case atStart => exact ⟨0, 0, Nat.zero_le _, rfl, rfl, rfl⟩
  case round =>
    obtain ⟨k, S, hk, rfl, rfl, hS⟩ := hrel
    by_cases hlt : k < Ls.length
    · obtain ⟨p, n, cp, hv, hvl, _⟩ := hL.out.one k hlt
      have hs1 := sumTo_succ Ls k hlt
      have hs2 : S + n ≤ N := by have := sumTo_le Ls (k + 1); rw [HN.out]; omega
      have HS : Hid (S + n = sumTo Ls (k + 1)) := Lib.hid (by omega)
      clear hs1 hS hvl
      go_wp2
      go_round
      case rel => exact ⟨k + 1, S + n, by omega, by go_num, by go_num, HS.out⟩
      case measure => simp [intOf]; omega
    · obtain rfl : S = N := by rw [hS, HN.out, show k = Ls.length by omega, sumTo_all]
      clear hS
      go_wp2_with ((at_make; refine wpList_make_full _ rfl _ _ 22 rfl w.heap.size 58 i0 zeroNode 4 Tryz.underlying22 HI.out.1 HI.out.2.1 HI.out.2.2.1 .i64 .i64 _ _ S rfl rfl rfl rfl (by rw [HI.out.2.2.2]; omega) (by unfold maxLen; omega) (Nat.le_refl _) ?_; intro w1 hown hgrow; have HO := Lib.hid hown; have HG := Lib.hid hgrow; clear hown hgrow))
      obtain ⟨hol, hor⟩ := HO.out
      obtain ⟨cur, hcur, hcl⟩ : ∃ cur : List Value, w1.heap[w.heap.size]? = some (.cells cur.toArray 58 (0, 0)) ∧ cur.length = S * 4 := by
        rcases hor with ⟨h, _⟩ | ⟨g, cap, cur, h1, _, h3, _, _, h6, _⟩
        · simp at h
        · simp at h1
          obtain ⟨rfl, rfl⟩ := h1
          exact ⟨cur.toList, by simpa using h3, by simpa using h6⟩
      have hB1 : Below w.heap.size w w1 := (Below.refl _ _).grown HG.out (Nat.le_refl _) (fun k hk => by simp at hk)
      have HC := Lib.hid hcur
      have HL2 := Lib.hid hcl
      clear hol hor hcur hcl
      go_loopw [7, 25] (fun s i wr => ∃ k A : Nat, ∃ rest : List Value, k ≤ Ls.length ∧ i = .int .i64 k ∧ s = .int .i64 A ∧ A = sumTo Ls k ∧ Below w.heap.size w wr ∧ rest.length = S * 4 - A * 4 ∧ wr.heap[w.heap.size]? = some (.cells (nodeCells (Ls.take k).flatten ++ rest).toArray 58 (0, 0))) (fun _ i _ => Ls.length - (intOf i).toNat)
      case atStart => exact ⟨0, 0, cur, Nat.zero_le _, rfl, rfl, rfl, hB1, by rw [HL2.out]; omega, by simpa [nodeCells] using HC.out⟩
      case round =>
        obtain ⟨k, A, rest, hk, rfl, rfl, hA, hbel, hrest, hblk⟩ := hrel
        have HB := Lib.hid hblk
        have HR := Lib.hid hrest
        clear hblk hrest
        by_cases hlt : k < Ls.length
        · obtain ⟨p, n, cp, hv, hvl, hnode⟩ := (hL.out.below hbel hb).one k hlt
          have hs1 := sumTo_succ Ls k hlt
          have hs2 : A + n ≤ S := by have := sumTo_le Ls (k + 1); rw [HN.out]; omega
          have HS : Hid (A + n = sumTo Ls (k + 1)) := Lib.hid (by omega)
          have HA := Lib.hid hA
          have HV := Lib.hid hvl
          have HNo := Lib.hid hnode
          obtain ⟨X, hX⟩ : ∃ X, X = nodeCells (Ls.take k).flatten := ⟨_, rfl⟩
          rw [← hX] at HB
          have hXl : X.length = A * 4 := by rw [hX, length_nodeCells, hA]; rfl
          have HX := Lib.hid hX
          have HXl := Lib.hid hXl
          obtain ⟨Y, hY⟩ : ∃ Y, Y = nodeCells (Ls.getD k []) := ⟨_, rfl⟩
          have hYl : Y.length = n * 4 := by rw [hY, length_nodeCells, hvl]
          have HY := Lib.hid hY
          have HYl := Lib.hid hYl
          have hsrc : 0 < n → ∃ ad, p = some ad ∧ ∀ j v, Y[j]? = some v → wr.cell? (ad.add j) = some v := by
            intro h0
            obtain ⟨_, p2, c2, h1, _, _, h4⟩ := hnode
            simp only [Value.slice.injEq] at h1
            obtain ⟨rfl, h2, _⟩ := h1
            obtain ⟨bb, oo, rfl, _, hc⟩ := h4 (by omega)
            exact ⟨_, rfl, by rw [hY]; exact hc.at⟩
          have HSrc := Lib.hid hsrc
          clear hs1 hA hvl hnode hX hXl hY hYl hsrc
          have hAS : A = S ∨ A < S := by omega
          rcases hAS with rfl | hAS
          · go_wp2_with (((with_reducible refine wpList_copy_many rfl (.tmp 32) (.tmp 33) 22 22 rfl 58 4 n Tryz.underlying22 sizeNode (some ⟨w.heap.size, 0, none⟩) p 0 0 n cp ?a7 ?a8 ?c1 w.heap.size (A * 4) (X ++ rest) 58 ?HB Y ?c0 ?c2 ?c3 ?c4 w.heap.size w ?c6 ?c7 ?c5); (case a7 => rfl); (case a8 => rfl); (case c1 => omega); (case HB => exact HB.out); (case c0 => exact HYl.out); (case c2 => intro h; omega); (case c3 => rw [HYl.out, List.length_append, HXl.out, HR.out]; omega); (case c4 => rw [HY.out]; exact nodeCells_one _); (case c6 => exact hbel); (case c7 => exact Nat.le_refl _); intro w3 H3 hbel3))
            go_roundw
            case rel => exact ⟨k + 1, A + n, rest.drop Y.length, by omega, by go_num, by go_num, HS.out, hbel3, by rw [List.length_drop, HR.out, HYl.out]; omega, by
              have h3 := H3.out
              rw [splice_row X rest Y (A * 4) HXl.out.symm, HX.out, HY.out, ← nodeCells_append, ← take_flat Ls k hlt] at h3
              rw [HY.out]
              exact h3⟩
            case measure => simp [intOf]; omega
          · go_wp2_with (((with_reducible refine wpList_copy_many rfl (.tmp 32) (.tmp 33) 22 22 rfl 58 4 n Tryz.underlying22 sizeNode (some ⟨w.heap.size, A * 4, none⟩) p (S - A) (S - A) n cp ?za7 ?za8 ?zc1 w.heap.size (A * 4) (X ++ rest) 58 ?zHB Y ?zc0 ?zc2 ?zc3 ?zc4 w.heap.size w ?zc6 ?zc7 ?zc5); (case za7 => rfl); (case za8 => rfl); (case zc1 => omega); (case zHB => exact HB.out); (case zc0 => exact HYl.out); (case zc2 => intro h9; exact ⟨rfl, HSrc.out h9⟩); (case zc3 => rw [HYl.out, List.length_append, HXl.out, HR.out]; omega); (case zc4 => rw [HY.out]; exact nodeCells_one _); (case zc6 => exact hbel); (case zc7 => exact Nat.le_refl _); intro w3 H3 hbel3))
            go_roundw
            case rel => exact ⟨k + 1, A + n, rest.drop Y.length, by omega, by go_num, by go_num, HS.out, hbel3, by rw [List.length_drop, HR.out, HYl.out]; omega, by
              have h3 := H3.out
              rw [splice_row X rest Y (A * 4) HXl.out.symm, HX.out, HY.out, ← nodeCells_append, ← take_flat Ls k hlt] at h3
              rw [HY.out]
              exact h3⟩
            case measure => simp [intOf]; omega
        · obtain rfl : k = Ls.length := by omega
          have hAS : A = S := by rw [hA, sumTo_all, HN.out]
          have hr0 : rest = [] := List.eq_nil_of_length_eq_zero (by rw [HR.out]; omega)
          have HA := Lib.hid hAS
          have H0 := Lib.hid hr0
          clear hA hAS hr0
          go_wp2
          go_ret
          refine ⟨.slice (some ⟨w.heap.size, 0, none⟩) S S, rfl, ?_, hbel⟩
          have hb4 := HB.out
          rw [H0.out, List.append_nil, List.take_length] at hb4
          have hln := length_nodeCells Ls.flatten
          rw [← HN.out] at hln
          rw [← HN.out]
          exact ⟨hln, .inr ⟨w.heap.size, S, _, rfl, Nat.le_refl _, hb4, Nat.le_refl _, by unfold maxLen; omega, by simp [hln], by rw [← hln]; simp⟩⟩
set_option maxHeartbeats 1000000 in
theorem make_own (k m s : Int) (t : ByteArray) (p : Option Addr) (c : Nat) (w : World) :
    Calls Tryz.prog 95 #[.agg #[.int .i64 k, .string t, .int .i64 m, .int .i64 s], .slice p 0 c] w (NOwn w [⟨k, t, m, 0⟩]) := by
  rcases p with _ | a <;>
  · go_enter Tryz.func95, Tryz.ntmps95
    go_wp2_with fail
    refine (join_own (w.heap.size + 1 + 1) 0 1 [[⟨k, t, m, 0⟩]] _ (by simp) (by
      have h := lists_one ((w.alloc (.cells #[.int .i64 k, .string t, .int .i64 m, .int .i64 0] 58)).alloc (.cells #[.int .i64 k, .string t, .int .i64 m, .int .i64 0] 58)) (.slice (some ⟨w.heap.size + 1, 0, none⟩) 1 1) 22 [⟨k, t, m, 0⟩] (by
        have := node_new (w.alloc (.cells #[.int .i64 k, .string t, .int .i64 m, .int .i64 0] 58)) ⟨k, t, m, 0⟩
        simpa using this)
      show Lists _ _ _ _
      simpa using h) (by simp) (by simp)).mono ?_
    rintro e w1 ⟨v', rfl, hv, hb1⟩
    have HV := Lib.hid hv
    clear hv
    go_wp2_with fail
    go_ret
    refine ⟨_, rfl, ?_, ((((Below.refl _ _).alloc (Nat.le_refl _) _).alloc (by simp) _).alloc (by simp; omega) _).trans (hb1.mono (by simp; omega))⟩
    have h9 := HV.out
    simp only [List.flatten_cons, List.flatten_nil, List.append_nil] at h9
    exact World.ownsRow.base h9 (by simp; omega)
end Go.Proofs.YtncifeeinogcnaaGreatDoor
/- Canon: its bindings. -/
set_option maxRecDepth 100000
namespace Go.Proofs.YtncifeeinogcnaaGreatDoor
open Go.RowKit Go.Lib Go.Maps Go.Proofs.TreeMath

theorem varown_any (v : Int) (w : World) : Calls Tryz.prog 51 #[.int .i64 v] w (NOwn w [vN v]) := by
  go_enter Tryz.func51, Tryz.ntmps51
  go_wp2_with fail
  refine (make_own 31 v 0 ⟨#[]⟩ none 0 _).mono ?_
  rintro e w1 ⟨u, rfl, hv, hb1⟩
  have H := Lib.hid (show NOwn w [vN v] (.returned u) w1 from ⟨u, rfl, hv, hb1⟩)
  clear hv hb1
  go_wp2
  go_ret
  exact H.out
def cb (vs : List Int) (k : Nat) : List (Int × List Nd) := (List.range k).map fun i => (vs.getD i 0, [vN i])
theorem cb_succ (vs : List Int) (k : Nat) : cb vs (k + 1) = cb vs k ++ [(vs.getD k 0, [vN k])] := by simp [cb, List.range_succ]
theorem varsN_mem (t : List Nd) (n : Nd) (hn : n ∈ t) (hk : n.kind = 31) : n.num ∈ varsN t := by
  have keep : ∀ (t : List Nd) (acc : List Int) (v : Int), v ∈ acc → v ∈ t.foldl vstep acc := by
    intro t
    induction t with
    | nil => intro acc v h; exact h
    | cons m t ih => intro acc v h; exact ih _ v (by unfold vstep; split; exact List.mem_append_left _ h; exact h)
  have : ∀ (t : List Nd) (acc : List Int), n ∈ t → n.num ∈ t.foldl vstep acc := by
    intro t
    induction t with
    | nil => intro acc h; simp at h
    | cons m t ih =>
      intro acc h
      rcases List.mem_cons.1 h with rfl | h
      · refine keep t _ _ ?_
        unfold vstep
        split
        · exact List.mem_append_right _ (by simp)
        · rename_i h2
          apply Classical.byContradiction
          intro h3
          exact h2 ⟨hk, h3⟩
      · exact ih _ h
  exact this t [] hn
theorem varsN_len (t : List Nd) : (varsN t).length ≤ t.length := by
  have : ∀ (t : List Nd) (acc : List Int), (t.foldl vstep acc).length ≤ acc.length + t.length := by
    intro t
    induction t with
    | nil => intro acc; simp
    | cons n t ih =>
      intro acc
      have h1 := ih (vstep acc n)
      have h2 : (vstep acc n).length ≤ acc.length + 1 := by unfold vstep; split <;> simp
      rw [List.foldl_cons, List.length_cons]; omega
  have := this t []
  simpa [varsN] using this
theorem gB_prs (bs : List BT) (v : Int) : gB bs v = ((prs bs).find? fun p => p.1 == v).map fun p => p.2 := by
  unfold gB prs
  induction bs with
  | nil => rfl
  | cons b bs ih =>
    simp only [List.find?_cons, List.map_cons]
    cases hb : b.1 == v with
    | true => rfl
    | false => exact ih
theorem find_cb (vs : List Int) (v : Int) : ∀ k, k ≤ vs.length → (∀ i, i < k → vs.getD i 0 ≠ v) → ((cb vs k).find? fun p => p.1 == v) = none := by
  intro k hk h
  rw [List.find?_eq_none]
  intro p hp
  simp only [cb, List.mem_map, List.mem_range] at hp
  obtain ⟨i, hi, rfl⟩ := hp
  simpa using h i hi
theorem first_at (vs : List Int) (v : Int) (hm : v ∈ vs) : ∃ j, j < vs.length ∧ vs.getD j 0 = v ∧ ∀ i, i < j → vs.getD i 0 ≠ v := by
  induction vs with
  | nil => simp at hm
  | cons a vs ih =>
    by_cases e : a = v
    · exact ⟨0, by simp, by simpa using e, fun i hi => by omega⟩
    · obtain ⟨j, h1, h2, h3⟩ := ih (by rcases List.mem_cons.1 hm with h | h; exact absurd h.symm e; exact h)
      refine ⟨j + 1, by simpa using h1, by simpa using h2, fun i hi => ?_⟩
      cases i with
      | zero => simpa using e
      | succ i => have := h3 i (by omega); simpa using this
theorem gB_canon {bs : List BT} {vs : List Int} (h : prs bs = cb vs vs.length) {v : Int} (hm : v ∈ vs) : gB bs v = some [vN (placeI vs v)] := by
  rw [gB_prs, h]
  obtain ⟨j, hj, hv, hlt⟩ := first_at vs v hm
  have hp := idxOf_at hj hv hlt
  rw [hp]
  have : (cb vs vs.length).find? (fun p => p.1 == v) = some (v, [vN j]) := by
    rw [List.find?_eq_some_iff_getElem]
    refine ⟨by simp, j, by simpa [cb] using hj, by
      rw [List.getD_eq_getElem?_getD] at hv
      simp [cb, hv], fun i hi => ?_⟩
    have := hlt i hi
    simpa [cb] using this
  rw [this]; rfl
theorem apN_canon {bs : List BT} {t : List Nd} (h : prs bs = cb (varsN t) (varsN t).length) (ht : t.all rightN = true) : apN (gB bs) t = canonN t := by
  unfold apN canonN
  have : ∀ l : List Nd, (∀ n ∈ l, n ∈ t) → l.flatMap (ap1 (gB bs)) = l.map (canon1 (varsN t)) := by
    intro l
    induction l with
    | nil => intro _; rfl
    | cons n l ih =>
      intro hl
      rw [List.flatMap_cons, List.map_cons, ih fun m hm => hl m (List.mem_cons_of_mem _ hm)]
      have hn := hl n List.mem_cons_self
      have h1 : ap1 (gB bs) n = [canon1 (varsN t) n] := by
        unfold ap1 canon1
        by_cases hk : n.kind = 31
        · rw [if_pos hk, if_pos hk, gB_canon h (varsN_mem t n hn hk)]
          have := (right_num (List.all_eq_true.1 ht n hn)).2.1 hk
          show [vN _] = _
          rw [this]
          rfl
        · rw [if_neg hk, if_neg hk]
      rw [h1]; rfl
  exact this t fun _ h => h
end Go.Proofs.YtncifeeinogcnaaGreatDoor
/- The contract of Canon. -/
set_option maxRecDepth 100000
namespace Go.Proofs.YtncifeeinogcnaaGreatDoor
open Go.RowKit Go.Lib Go.Maps Go.Proofs.TreeMath

theorem varsN_sub (t : List Nd) (v : Int) (h : v ∈ varsN t) : ∃ n ∈ t, n.num = v := by
  have : ∀ (l : List Nd) (acc : List Int), v ∈ l.foldl vstep acc → v ∈ acc ∨ ∃ n ∈ l, n.num = v := by
    intro l
    induction l with
    | nil => intro acc h; exact .inl h
    | cons n l ih =>
      intro acc h
      rcases ih _ h with h2 | ⟨m, hm, e⟩
      · unfold vstep at h2
        split at h2
        · rcases List.mem_append.1 h2 with h3 | h3
          · exact .inl h3
          · rw [List.mem_singleton] at h3
            exact .inr ⟨n, List.mem_cons_self, h3.symm⟩
        · exact .inl h2
      · exact .inr ⟨m, List.mem_cons_of_mem _ hm, e⟩
  rcases this t [] h with h2 | h2
  · simp at h2
  · exact h2
structure CI (w : World) (vs : List Int) (vv : Value) (j : Nat) (bs : List BT) (lv : Value) (wr : World) : Prop where
  bg : BG w.heap.size bs lv wr
  row : wr.ownsRow w.heap.size 3 1 vv vs.length (intCells vs)
  eq : prs bs = cb vs j
  be : Below w.heap.size w wr
theorem CI.below {w : World} {vs : List Int} {vv lv : Value} {j : Nat} {bs : List BT} {wr w2 : World} (h : CI w vs vv j bs lv wr) (b : Below wr.heap.size wr w2) : CI w vs vv j bs lv w2 :=
  ⟨h.bg.keep fun g _ _ _ hg _ => b.block g (Array.getElem?_eq_some_iff.1 hg).1, World.ownsRow.keep h.row fun g hg => b.block g (World.ownsRow.there h.row hg).2, h.eq, h.be.trans (b.mono h.be.size)⟩
theorem CI.more {w : World} {vs : List Int} {vv lv nv tv : Value} {j : Nat} {bs : List BT} {wr w1 w2 : World} (h : CI w vs vv j bs lv wr) (b1 : Below wr.heap.size wr w1) (g : w1.grownBy w2 lv.ownBlock) (ho : wr.ownsRow w.heap.size 58 4 tv 1 (nodeCells [vN j]))
    (hn : w2.ownsRow w.heap.size 40 2 nv (bs.length + 1) (btCells bs ++ [.int .i64 (vs.getD j 0), tv])) : CI w vs vv (j + 1) (bs ++ [(vs.getD j 0, [vN j], tv)]) nv w2 := by
  refine ⟨h.bg.more b1 g (vs.getD j 0, [vN j], tv) ho hn, World.ownsRow.keep h.row fun k hk => ?_, by rw [cb_succ, ← h.eq]; simp [prs], (h.be.trans (b1.mono h.be.size)).grown g (Nat.le_trans h.be.size b1.size) fun k e => (World.ownsRow.there h.bg.1 e).1⟩
  obtain ⟨cur, hc⟩ := row_ty h.row hk
  have hlt := (World.ownsRow.there h.row hk).2
  refine (g.block k (Nat.lt_of_lt_of_le hlt b1.size) fun e => ?_).trans (b1.block k hlt)
  obtain ⟨cur2, hc2⟩ := row_ty h.bg.1 e.symm
  rw [hc] at hc2; simp at hc2
def CanP (t : List Nd) (w : World) (e : Ending) (w' : World) : Prop := ∃ lv, e = .returned lv ∧ w'.ownsRow w.heap.size 58 4 lv (if tyB t = true then canonN t else []).length (nodeCells (if tyB t = true then canonN t else [])) ∧ Below w.heap.size w w'
set_option maxHeartbeats 4000000 in
theorem canon_any (tv : Value) (t : List Nd) (w : World) (hns : NodesAt w tv t) (hl : t.length ≤ 1000000) (sm : SmallN t) : Calls Tryz.prog 16 #[tv] w (CanP t w) := by
  have CK := Lib.hid (check_any tv t w hns hl sm)
  unfold CkP at CK
  cases hty : tyB t with
  | false =>
    have E : Hid (∀ w', Below w.heap.size w w' → CanP t w (.returned (.slice none 0 0)) w') := Lib.hid fun w' b => ⟨_, rfl, by rw [hty]; exact World.ownsRow_nil _ _ _ _, b⟩
    rw [hty] at CK
    clear hns hl sm hty
    go_enter Tryz.func16, Tryz.ntmps16
    go_wp2_with fail
    refine CK.out.mono ?_
    rintro e w1 ⟨rfl, b1⟩
    have B1 := Lib.hid b1
    clear b1 CK
    go_wp2
    go_ret
    exact E.out _ B1.out
  | true =>
    rw [hty] at CK
    have hty2 := hty
    unfold tyB at hty2
    simp only [Bool.and_eq_true, decide_eq_true_eq] at hty2
    have RT := Lib.hid hty2.2
    have HTY := Lib.hid hty
    have NS := Lib.hid (fun W (b : Below w.heap.size w W) => hns.below b)
    have VARS := Lib.hid (fun W (b : Below w.heap.size w W) => vars_any tv t W (hns.below b) hl sm)
    have HL := Lib.hid hl
    obtain ⟨vs, hvs⟩ : ∃ vs, vs = varsN t := ⟨_, rfl⟩
    have VL : Hid (vs.length ≤ 4000) := Lib.hid (by rw [hvs]; have := varsN_len t; have := hty2.1.1; omega)
    have HVS := Lib.hid hvs
    clear hns hl sm hty hty2 hvs
    go_enter Tryz.func16, Tryz.ntmps16
    go_wp2_with fail
    refine CK.out.mono ?_
    rintro e w1 ⟨rfl, b1⟩
    have V1 := Lib.hid (VARS.out w1 b1)
    have B1 := Lib.hid b1
    clear b1 CK VARS
    go_wp2_with fail
    refine V1.out.mono ?_
    rintro e w2 ⟨vv, rfl, vrow, b2⟩
    rw [HTY.out] at vrow
    simp only [if_true] at vrow
    rw [← HVS.out] at vrow
    have C0 := Lib.hid (show CI w vs vv 0 [] (.slice none 0 0) w2 from ⟨BG.nil _ _, World.ownsRow.base vrow B1.out.size, rfl, B1.out.trans (b2.mono B1.out.size)⟩)
    obtain ⟨q, c, rfl⟩ := row_form vrow
    obtain ⟨nv, hnv⟩ : ∃ nv, nv = vs.length := ⟨_, rfl⟩
    rw [← hnv] at C0 ⊢
    have HNV := Lib.hid hnv
    have hnv4 : nv ≤ 4000 := by rw [hnv]; exact VL.out
    clear vrow b2 V1 B1 hnv
    go_wp2
    go_loopw [3, 12] (fun l i wr => ∃ (j : Nat) (bs : List BT), j ≤ nv ∧ i = .int .i64 j ∧ Hid (CI w vs (.slice q nv c) j bs l wr)) (fun _ i _ => nv - (intOf i).toNat)
    case atStart => exact ⟨0, [], Nat.zero_le _, rfl, C0⟩
    case round =>
      obtain ⟨j, bs, hj, rfl, hU⟩ := hrel
      clear C0
      have hlb : bs.length = j := by
        have h := congrArg List.length hU.out.eq
        simpa [prs, cb] using h
      by_cases hlt : j < nv
      · obtain ⟨v, hv⟩ : ∃ v, v = vs.getD j 0 := ⟨_, rfl⟩
        have HV := Lib.hid hv
        obtain ⟨g1, q', c', e', g2, g3, g4⟩ := SliceAt.of_owns hU.out.row
        obtain ⟨b, o, rfl, gb, gc⟩ := g4 (by rw [← HNV.out]; omega)
        simp only [Value.slice.injEq] at e'
        obtain ⟨rfl, e1, rfl⟩ := e'
        have k0 := gc.int j (by rw [← HNV.out]; exact hlt)
        rw [← hv] at k0
        have VAR := Lib.hid (varown_any (j : Int) wr)
        have HLB := Lib.hid hlb
        clear g1 g2 g3 g4 gb gc e1 hv hlb
        go_wp2_with fail
        refine Calls.mono VAR.out ?_
        rintro e w6 ⟨tv6, rfl, own, b6⟩
        have U7 := Lib.hid (hU.out.below b6)
        have OWN := Lib.hid (World.ownsRow.base own hU.out.be.size)
        obtain ⟨q7, c7, rfl⟩ := row_form own
        obtain ⟨ql, cl, hql⟩ := row_form U7.out.bg.1
        obtain ⟨kb0, hkb⟩ : ∃ k, k = bs.length := ⟨_, rfl⟩
        rw [← hkb] at hql
        subst hql
        have HKB := Lib.hid hkb
        have hkle : kb0 = j := by rw [hkb]; exact HLB.out
        obtain ⟨j0, j1, j2, j3, j4⟩ := info40
        have HJ := Lib.hid (And.intro j1 (And.intro j2 (And.intro j3 j4)))
        have HMX := Lib.hid (show kb0 + 1 ≤ maxLen ∧ (kb0 + 1) * 32 ≤ 140737488355328 from ⟨by unfold maxLen; omega, by omega⟩)
        have AL2 : Below w6.heap.size w6 (w6.alloc (.cells #[.int .i64 v, .slice q7 1 c7] 40)) := (Below.refl w6.heap.size w6).alloc (Nat.le_refl _) _
        have ALH := Lib.hid AL2
        have HLC := Lib.hid (lit_cells w6 #[.int .i64 v, .slice q7 1 c7] 40)
        have ROWA := Lib.hid (show (w6.alloc (.cells #[.int .i64 v, .slice q7 1 c7] 40)).ownsRow w.heap.size 40 2 (.slice ql kb0 cl) kb0 (btCells bs) from by
          have := U7.out.bg.1
          rw [← hkb] at this
          exact World.ownsRow.keep this fun g hg => AL2.block g (World.ownsRow.there this hg).2)
        clear own hkb j1 j2 j3 j4 AL2 b6 VAR hU hkle k0
        go_wp2_with (at_builtin; refine wpList_append_any _ rfl _ _ 35 rfl w.heap.size 40 j0 (.agg #[.int .i64 0, .slice none 0 0]) 2 32 Tryz.underlying35 HJ.out.1 HJ.out.2.1 HJ.out.2.2.1 HJ.out.2.2.2 rfl (by decide) (.slice ql kb0 cl) kb0 (btCells bs) rfl ROWA.out (some ⟨w6.heap.size, 0, none⟩) 1 1 [.int .i64 v, .slice q7 1 c7] rfl rfl (fun _ => ⟨_, rfl, CellsIn.at HLC.out⟩) (by intro u hu; simp at hu; rcases hu with rfl | rfl <;> rfl) HMX.out.1 HMX.out.2 (Nat.le_trans U7.out.be.size ALH.out.size) ?_; intro p' cap' w8 hown hgrow hblk; have RN := Lib.hid hown; have GN := Lib.hid hgrow; clear hown hgrow hblk)
        go_roundw
        case rel =>
          have M := U7.out.more ALH.out GN.out (nv := .slice p' (kb0 + 1) cap') (tv := .slice q7 1 c7) OWN.out (by rw [← HKB.out, ← HV.out]; exact RN.out)
          exact ⟨j + 1, _, by omega, by go_num, Lib.hid M⟩
        case measure => simp [intOf]; omega
      · obtain rfl : j = nv := by omega
        have APP := Lib.hid (apply_own w.heap.size bs u3 tv t wr hU.out.bg (fun b hb => by
            have hm : (b.1, b.2.1) ∈ prs bs := List.mem_map.2 ⟨b, hb, rfl⟩
            rw [hU.out.eq] at hm
            simp only [cb, List.mem_map, List.mem_range, Prod.mk.injEq] at hm
            obtain ⟨i, hi, h1, _⟩ := hm
            have hi2 : i < vs.length := by rw [← HNV.out]; exact hi
            have hv : b.1 ∈ varsN t := by
              rw [← HVS.out, ← h1, List.getD_eq_getElem?_getD, List.getElem?_eq_getElem hi2]
              exact List.getElem_mem _
            obtain ⟨n, hn, he⟩ := varsN_sub t _ hv
            have := (right_num (List.all_eq_true.1 RT.out n hn)).1
            omega) (fun b hb => by
            have hm : (b.1, b.2.1) ∈ prs bs := List.mem_map.2 ⟨b, hb, rfl⟩
            rw [hU.out.eq] at hm
            simp only [cb, List.mem_map, List.mem_range, Prod.mk.injEq] at hm
            obtain ⟨i, _, _, h2⟩ := hm
            rw [← h2]; simp) (by omega) (NS.out wr hU.out.be) HL.out (fun n hn => by
            have := (right_num (List.all_eq_true.1 RT.out n hn)).1
            omega))
        have EQ := Lib.hid (apN_canon (bs := bs) (t := t) (by rw [hU.out.eq, HNV.out, HVS.out]) RT.out)
        rw [EQ.out] at APP
        have BE := Lib.hid hU.out.be
        clear hlt hlb hU
        go_wp2_with fail
        refine APP.out.mono ?_
        rintro e w9 ⟨r9, rfl, own9, b9⟩
        have E : Hid (CanP t w (.returned r9) w9) := ⟨r9, rfl, by rw [HTY.out]; exact World.ownsRow.base own9 BE.out.size, BE.out.trans (b9.mono BE.out.size)⟩
        clear own9 b9 APP
        go_wp2
        go_ret
        exact E.out
end Go.Proofs.YtncifeeinogcnaaGreatDoor
/- The laws' mathematics: bindings are determined by what is put for variables. -/
set_option maxRecDepth 100000
namespace Go.Proofs.YtncifeeinogcnaaGreatDoor
open Go.Proofs.TreeMath

theorem asc_ext : ∀ (a b : List Int), a.Pairwise (· < ·) → b.Pairwise (· < ·) → (∀ v, v ∈ a ↔ v ∈ b) → a = b := by
  intro a
  induction a with
  | nil =>
    intro b _ _ h
    cases b with
    | nil => rfl
    | cons y b => exact absurd ((h y).2 List.mem_cons_self) (by simp)
  | cons x a ih =>
    intro b ha hb h
    cases b with
    | nil => exact absurd ((h x).1 List.mem_cons_self) (by simp)
    | cons y b =>
      obtain ⟨ha1, ha2⟩ := List.pairwise_cons.1 ha
      obtain ⟨hb1, hb2⟩ := List.pairwise_cons.1 hb
      have exy : x = y := by
        rcases List.mem_cons.1 ((h x).1 List.mem_cons_self) with e | e
        · exact e
        · rcases List.mem_cons.1 ((h y).2 List.mem_cons_self) with e2 | e2
          · exact e2.symm
          · have := ha1 y e2; have := hb1 x e; omega
      subst exy
      rw [ih b ha2 hb2 fun v => ?_]
      constructor
      · intro hv
        rcases List.mem_cons.1 ((h v).1 (List.mem_cons_of_mem _ hv)) with e | e
        · have := ha1 v hv; omega
        · exact e
      · intro hv
        rcases List.mem_cons.1 ((h v).2 (List.mem_cons_of_mem _ hv)) with e | e
        · have := hb1 v hv; omega
        · exact e
open Classical in
theorem binds_filter (s : Int → T) (ks : List Int) : bindsOf s ks = (ks.filter fun k => decide (s k ≠ vT k)).map fun k => (k, flatT (s k)) := by
  induction ks with
  | nil => rfl
  | cons k ks ih =>
    have e : bindsOf s (k :: ks) = bind1 s k ++ bindsOf s ks := by simp [bindsOf]
    rw [e, ih, List.filter_cons]
    by_cases h : s k = vT k
    · rw [bind1_self h, if_neg (by simp [h])]; rfl
    · rw [bind1_more h, if_pos (by simp [h])]; rfl
theorem binds_same (s : Int → T) (ks ls : List Int) (hp : ks.Pairwise (· < ·)) (hk : ∀ v, s v ≠ vT v → v ∈ ks) (lp : ls.Pairwise (· < ·)) (lk : ∀ v, s v ≠ vT v → v ∈ ls) : bindsOf s ks = bindsOf s ls := by
  classical
  rw [binds_filter, binds_filter]
  congr 1
  refine asc_ext _ _ (hp.filter _) (lp.filter _) fun v => ?_
  simp only [List.mem_filter, decide_eq_true_eq]
  exact ⟨fun h => ⟨lk v h.2, h.2⟩, fun h => ⟨hk v h.2, h.2⟩⟩
theorem binds_asc (s : Int → T) (ks : List Int) (hp : ks.Pairwise (· < ·)) : ((bindsOf s ks).map Prod.fst).Pairwise (· < ·) := by
  classical
  rw [binds_filter, List.map_map]
  have : (Prod.fst ∘ fun k => (k, flatT (s k))) = (id : Int → Int) := rfl
  rw [this, List.map_id]
  exact hp.filter _
theorem binds_none (s : Int → T) (ks : List Int) (h : ∀ v, s v = vT v) : bindsOf s ks = [] := by
  induction ks with
  | nil => rfl
  | cons k ks ih =>
    have e : bindsOf s (k :: ks) = bind1 s k ++ bindsOf s ks := by simp [bindsOf]
    rw [e, ih, bind1_self (h k)]; rfl
theorem binds_mem (s : Int → T) (ks : List Int) (p : Int × List Nd) (h : p ∈ bindsOf s ks) : p.1 ∈ ks ∧ s p.1 ≠ vT p.1 ∧ p.2 = flatT (s p.1) := by
  classical
  rw [binds_filter] at h
  simp only [List.mem_map, List.mem_filter, decide_eq_true_eq] at h
  obtain ⟨k, ⟨h1, h2⟩, rfl⟩ := h
  exact ⟨h1, h2, rfl⟩
theorem binds_len (s : Int → T) (ks : List Int) : (bindsOf s ks).length ≤ ks.length := by
  classical
  rw [binds_filter, List.length_map]
  exact List.length_filter_le _ _
theorem binds_find (s : Int → T) (ks : List Int) (v : Int) : ((bindsOf s ks).find? fun p => p.1 == v) = none ∧ (v ∈ ks → s v = vT v) ∨ ((bindsOf s ks).find? fun p => p.1 == v) = some (v, flatT (s v)) ∧ s v ≠ vT v := by
  induction ks with
  | nil => exact .inl ⟨rfl, fun h => by simp at h⟩
  | cons k ks ih =>
    have e : bindsOf s (k :: ks) = bind1 s k ++ bindsOf s ks := by simp [bindsOf]
    rw [e, List.find?_append]
    by_cases h : s k = vT k
    · rw [bind1_self h]
      rcases ih with ⟨a, b⟩ | ⟨a, b⟩
      · refine .inl ⟨by simpa using a, fun hm => ?_⟩
        rcases List.mem_cons.1 hm with rfl | hm
        · exact h
        · exact b hm
      · exact .inr ⟨by simpa using a, b⟩
    · rw [bind1_more h]
      by_cases hv : k = v
      · subst hv
        exact .inr ⟨by simp, h⟩
      · rcases ih with ⟨a, b⟩ | ⟨a, b⟩
        · refine .inl ⟨by simpa [hv] using a, fun hm => ?_⟩
          rcases List.mem_cons.1 hm with rfl | hm
          · exact absurd rfl hv
          · exact b hm
        · refine .inr ⟨by simpa [hv] using a, b⟩
/-- What is put by the bindings is what is put by the solution. -/
theorem ap_binds {bs : List BT} {s : Int → T} {ks : List Int} (h : prs bs = bindsOf s ks) (hk : ∀ v, s v ≠ vT v → v ∈ ks) (t : List Nd) (ht : ∀ n ∈ t, n.kind = 31 → n = vN n.num) : apN (gB bs) t = rs s t := by
  unfold apN rs
  induction t with
  | nil => rfl
  | cons n t ih =>
    rw [List.flatMap_cons, List.flatMap_cons, ih fun m hm => ht m (List.mem_cons_of_mem _ hm)]
    have e : ap1 (gB bs) n = rs1 s n := by
      unfold ap1 rs1
      by_cases hn : n.kind = 31
      · rw [if_pos hn, if_pos hn, gB_prs, h]
        rcases binds_find s ks n.num with ⟨a, b⟩ | ⟨a, b⟩
        · rw [a]
          have hs : s n.num = vT n.num := Classical.byContradiction fun hx => hx (b (hk _ hx))
          rw [hs]
          show [n] = [vN n.num]
          rw [← ht n List.mem_cons_self hn]
        · rw [a]; rfl
      · rw [if_neg hn, if_neg hn]
    rw [e]
theorem Un.turn {a b : T} {s : Int → T} (h : Un [(a, b)] s) : Un [(b, a)] s := by
  intro e he
  rw [List.mem_singleton] at he
  subst he
  exact (h (a, b) List.mem_cons_self).symm
theorem Mgu.turn {a b : T} {s : Int → T} (h : Mgu [(a, b)] s) : Mgu [(b, a)] s := ⟨h.un.turn, fun t ht => h.gen t ht.turn, h.wf, h.least⟩
theorem Mgu.self (a : T) : Mgu [(a, a)] vT := ⟨fun e he => by rw [List.mem_singleton] at he; subst he; rfl, fun t _ v => subT_vT t v, wvT_vT, fun v u h => by
  have : v = u := congrArg (fun t => t.1.num) h
  omega⟩
end Go.Proofs.YtncifeeinogcnaaGreatDoor
