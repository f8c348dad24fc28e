/- Texts of this seat, one behind the other: ParM, ParN. -/
import Derived.Test.YtggjckalmlploaaGreatDoorKn25
import Derived.Test.YtggjckalmlploaaGreatDoorKn28
/- tree.Make again: what it makes is new. -/
set_option maxRecDepth 100000
namespace Go.Proofs.YtggjckalmlploaaGreatDoor
open Go.RowKit Go.Proofs.TreeMath
/-- A slice that lies in a block of its own, made since a world. -/
def Fresh (B : Nat) (v : Value) : Prop := ∀ b o n c, v = .slice (some ⟨b, o, none⟩) n c → B ≤ b
theorem Fresh.mono {B B' : Nat} {v : Value} (h : Fresh B v) (hB : B' ≤ B) : Fresh B' v := fun b o n c e => Nat.le_trans hB (h b o n c e)
theorem fresh_at (B o n c : Nat) : Fresh B (.slice (some ⟨B, o, none⟩) n c) := fun b _ _ _ e => by
  simp only [Value.slice.injEq, Option.some.injEq, Addr.mk.injEq] at e
  omega
def NRetF (W : World) (ns : List Nd) (e : Ending) (w' : World) : Prop := ∃ v', e = .returned v' ∧ NodesAt w' v' ns ∧ Fresh W.heap.size v' ∧ Below W.heap.size W w'
set_option maxHeartbeats 2000000 in
theorem joinF_any (b off c : Nat) (Ls : List (List Nd)) (w : World) (hb : b < w.heap.size) (hL : Hid (Lists w b off Ls)) (hn : Ls.flatten.length ≤ 1000000) (hc : Ls.length ≤ 5000) :
    Calls Tryz.prog 90 #[.slice (some ⟨b, off, none⟩) Ls.length c] w (NRetF w Ls.flatten) := by
  obtain ⟨i0, hi, hz0, hz1, hz2⟩ := infoNode
  have HI := Lib.hid (And.intro hi (And.intro hz0 (And.intro hz1 hz2)))
  clear hi hz0 hz1 hz2
  obtain ⟨N, hN⟩ : ∃ N, N = Ls.flatten.length := ⟨_, rfl⟩
  have hn' : N ≤ 1000000 := by omega
  have HN := Lib.hid hN
  clear hN hn
  go_enter Tryz.func90, Tryz.ntmps90
  go_wp2
  go_loop [3, 12] (fun s i => ∃ k S : Nat, k ≤ Ls.length ∧ i = .int .i64 k ∧ s = .int .i64 S ∧ S = sumTo Ls k) (fun _ i => Ls.length - (intOf i).toNat)
  case atStart => exact ⟨0, 0, Nat.zero_le _, rfl, rfl, rfl⟩
  case round =>
    obtain ⟨k, S, hk, rfl, rfl, hS⟩ := hrel
    by_cases hlt : k < Ls.length
    · obtain ⟨p, n, cp, hv, hvl, _⟩ := hL.out.one k hlt
      have hs1 := sumTo_succ Ls k hlt
      have hs2 : S + n ≤ N := by have := sumTo_le Ls (k + 1); rw [HN.out]; omega
      have HS : Hid (S + n = sumTo Ls (k + 1)) := Lib.hid (by omega)
      clear hs1 hS hvl
      go_wp2
      go_round
      case rel => exact ⟨k + 1, S + n, by omega, by go_num, by go_num, HS.out⟩
      case measure => simp [intOf]; omega
    · obtain rfl : S = N := by rw [hS, HN.out, show k = Ls.length by omega, sumTo_all]
      clear hS
      go_wp2_with ((at_make; refine wpList_make_full _ rfl _ _ 25 rfl w.heap.size 37 i0 zeroNode 4 Tryz.underlying25 HI.out.1 HI.out.2.1 HI.out.2.2.1 .i64 .i64 _ _ S rfl rfl rfl rfl (by rw [HI.out.2.2.2]; omega) (by unfold maxLen; omega) (Nat.le_refl _) ?_; intro w1 hown hgrow; have HO := Lib.hid hown; have HG := Lib.hid hgrow; clear hown hgrow))
      obtain ⟨hol, hor⟩ := HO.out
      obtain ⟨cur, hcur, hcl⟩ : ∃ cur : List Value, w1.heap[w.heap.size]? = some (.cells cur.toArray 37 (0, 0)) ∧ cur.length = S * 4 := by
        rcases hor with ⟨h, _⟩ | ⟨g, cap, cur, h1, _, h3, _, _, h6, _⟩
        · simp at h
        · simp at h1
          obtain ⟨rfl, rfl⟩ := h1
          exact ⟨cur.toList, by simpa using h3, by simpa using h6⟩
      have hB1 : Below w.heap.size w w1 := (Below.refl _ _).grown HG.out (Nat.le_refl _) (fun k hk => by simp at hk)
      have HC := Lib.hid hcur
      have HL2 := Lib.hid hcl
      clear hol hor hcur hcl
      go_loopw [7, 25] (fun s i wr => ∃ k A : Nat, ∃ rest : List Value, k ≤ Ls.length ∧ i = .int .i64 k ∧ s = .int .i64 A ∧ A = sumTo Ls k ∧ Below w.heap.size w wr ∧ rest.length = S * 4 - A * 4 ∧ wr.heap[w.heap.size]? = some (.cells (nodeCells (Ls.take k).flatten ++ rest).toArray 37 (0, 0))) (fun _ i _ => Ls.length - (intOf i).toNat)
      case atStart => exact ⟨0, 0, cur, Nat.zero_le _, rfl, rfl, rfl, hB1, by rw [HL2.out]; omega, by simpa [nodeCells] using HC.out⟩
      case round =>
        obtain ⟨k, A, rest, hk, rfl, rfl, hA, hbel, hrest, hblk⟩ := hrel
        have HB := Lib.hid hblk
        have HR := Lib.hid hrest
        clear hblk hrest
        by_cases hlt : k < Ls.length
        · obtain ⟨p, n, cp, hv, hvl, hnode⟩ := (hL.out.below hbel hb).one k hlt
          have hs1 := sumTo_succ Ls k hlt
          have hs2 : A + n ≤ S := by have := sumTo_le Ls (k + 1); rw [HN.out]; omega
          have HS : Hid (A + n = sumTo Ls (k + 1)) := Lib.hid (by omega)
          have HA := Lib.hid hA
          have HV := Lib.hid hvl
          have HNo := Lib.hid hnode
          obtain ⟨X, hX⟩ : ∃ X, X = nodeCells (Ls.take k).flatten := ⟨_, rfl⟩
          rw [← hX] at HB
          have hXl : X.length = A * 4 := by rw [hX, length_nodeCells, hA]; rfl
          have HX := Lib.hid hX
          have HXl := Lib.hid hXl
          obtain ⟨Y, hY⟩ : ∃ Y, Y = nodeCells (Ls.getD k []) := ⟨_, rfl⟩
          have hYl : Y.length = n * 4 := by rw [hY, length_nodeCells, hvl]
          have HY := Lib.hid hY
          have HYl := Lib.hid hYl
          have hsrc : 0 < n → ∃ ad, p = some ad ∧ ∀ j v, Y[j]? = some v → wr.cell? (ad.add j) = some v := by
            intro h0
            obtain ⟨_, p2, c2, h1, _, _, h4⟩ := hnode
            simp only [Value.slice.injEq] at h1
            obtain ⟨rfl, h2, _⟩ := h1
            obtain ⟨bb, oo, rfl, _, hc⟩ := h4 (by omega)
            exact ⟨_, rfl, by rw [hY]; exact hc.at⟩
          have HSrc := Lib.hid hsrc
          clear hs1 hA hvl hnode hX hXl hY hYl hsrc
          have hAS : A = S ∨ A < S := by omega
          rcases hAS with rfl | hAS
          · go_wp2_with (((with_reducible refine wpList_copy_many rfl (.tmp 32) (.tmp 33) 25 25 rfl 37 4 n Tryz.underlying25 sizeNode (some ⟨w.heap.size, 0, none⟩) p 0 0 n cp ?a7 ?a8 ?c1 w.heap.size (A * 4) (X ++ rest) 37 ?HB Y ?c0 ?c2 ?c3 ?c4 w.heap.size w ?c6 ?c7 ?c5); (case a7 => rfl); (case a8 => rfl); (case c1 => omega); (case HB => exact HB.out); (case c0 => exact HYl.out); (case c2 => intro h; omega); (case c3 => rw [HYl.out, List.length_append, HXl.out, HR.out]; omega); (case c4 => rw [HY.out]; exact nodeCells_one _); (case c6 => exact hbel); (case c7 => exact Nat.le_refl _); intro w3 H3 hbel3))
            go_roundw
            case rel => exact ⟨k + 1, A + n, rest.drop Y.length, by omega, by go_num, by go_num, HS.out, hbel3, by rw [List.length_drop, HR.out, HYl.out]; omega, by
              have h3 := H3.out
              rw [splice_row X rest Y (A * 4) HXl.out.symm, HX.out, HY.out, ← nodeCells_append, ← take_flat Ls k hlt] at h3
              rw [HY.out]
              exact h3⟩
            case measure => simp [intOf]; omega
          · go_wp2_with (((with_reducible refine wpList_copy_many rfl (.tmp 32) (.tmp 33) 25 25 rfl 37 4 n Tryz.underlying25 sizeNode (some ⟨w.heap.size, A * 4, none⟩) p (S - A) (S - A) n cp ?za7 ?za8 ?zc1 w.heap.size (A * 4) (X ++ rest) 37 ?zHB Y ?zc0 ?zc2 ?zc3 ?zc4 w.heap.size w ?zc6 ?zc7 ?zc5); (case za7 => rfl); (case za8 => rfl); (case zc1 => omega); (case zHB => exact HB.out); (case zc0 => exact HYl.out); (case zc2 => intro h9; exact ⟨rfl, HSrc.out h9⟩); (case zc3 => rw [HYl.out, List.length_append, HXl.out, HR.out]; omega); (case zc4 => rw [HY.out]; exact nodeCells_one _); (case zc6 => exact hbel); (case zc7 => exact Nat.le_refl _); intro w3 H3 hbel3))
            go_roundw
            case rel => exact ⟨k + 1, A + n, rest.drop Y.length, by omega, by go_num, by go_num, HS.out, hbel3, by rw [List.length_drop, HR.out, HYl.out]; omega, by
              have h3 := H3.out
              rw [splice_row X rest Y (A * 4) HXl.out.symm, HX.out, HY.out, ← nodeCells_append, ← take_flat Ls k hlt] at h3
              rw [HY.out]
              exact h3⟩
            case measure => simp [intOf]; omega
        · obtain rfl : k = Ls.length := by omega
          have hAS : A = S := by rw [hA, sumTo_all, HN.out]
          have hr0 : rest = [] := List.eq_nil_of_length_eq_zero (by rw [HR.out]; omega)
          have HA := Lib.hid hAS
          have H0 := Lib.hid hr0
          clear hA hAS hr0
          go_wp2
          go_ret
          refine ⟨_, rfl, ?_, fresh_at _ _ _ _, hbel⟩
          have hb4 := HB.out
          rw [H0.out, List.append_nil, List.take_length] at hb4
          refine ⟨length_nodeCells _, _, S, by rw [HN.out]; rfl, by rw [HN.out]; exact Nat.le_refl _, by unfold maxLen; omega, fun _ => ⟨_, _, rfl, (Array.getElem?_eq_some_iff.1 hb4).1, ?_⟩⟩
          intro j u hj
          simp [World.cell?, hb4]
          simpa using hj
set_option maxHeartbeats 1000000 in
theorem makeF_zero (k m s : Int) (t : ByteArray) (p : Option Addr) (c : Nat) (w : World) :
    Calls Tryz.prog 66 #[.agg #[.int .i64 k, .string t, .int .i64 m, .int .i64 s], .slice p 0 c] w (NRetF w [⟨k, t, m, 0⟩]) := by
  rcases p with _ | a <;>
  · go_enter Tryz.func66, Tryz.ntmps66
    go_wp2_with fail
    refine (joinF_any (w.heap.size + 1 + 1) 0 1 [[⟨k, t, m, 0⟩]] _ (by simp) (by
      have h := lists_one ((w.alloc (.cells #[.int .i64 k, .string t, .int .i64 m, .int .i64 0] 37)).alloc (.cells #[.int .i64 k, .string t, .int .i64 m, .int .i64 0] 37)) (.slice (some ⟨w.heap.size + 1, 0, none⟩) 1 1) 25 [⟨k, t, m, 0⟩] (by
        have := node_new (w.alloc (.cells #[.int .i64 k, .string t, .int .i64 m, .int .i64 0] 37)) ⟨k, t, m, 0⟩
        simpa using this)
      show Lists _ _ _ _
      simpa using h) (by simp) (by simp)).mono ?_
    rintro e w1 ⟨v', rfl, hv, hfr, hb1⟩
    have HV := Lib.hid hv
    clear hv
    go_wp2_with fail
    go_ret
    refine ⟨_, rfl, ?_, hfr.mono (by simp; omega), ((((Below.refl _ _).alloc (Nat.le_refl _) _).alloc (by simp) _).alloc (by simp; omega) _).trans (hb1.mono (by simp; omega))⟩
    have h9 := HV.out
    simp only [List.flatten_cons, List.flatten_nil, List.append_nil] at h9
    exact h9
set_option maxHeartbeats 2000000 in
theorem makeF_some (k m s : Int) (t : ByteArray) (b off n c : Nat) (vs : List Value) (Ls : List (List Nd)) (w : World) (hb : b < w.heap.size) (hc : Hid (CellsIn w b off vs)) (hl : Hid (vs.length = n)) (hL : Hid (Ls.length = n)) (hn0 : 0 < n) (hn : n ≤ 4000) (hf : Hid (Ls.flatten.length ≤ 900000)) (hv : Hid (∀ i, i < Ls.length → NodesAt w (vs.getD i default) (Ls.getD i []))) :
    Calls Tryz.prog 66 #[.agg #[.int .i64 k, .string t, .int .i64 m, .int .i64 s], .slice (some ⟨b, off, none⟩) n c] w (NRetF w (makeN ⟨k, t, m, 0⟩ Ls)) := by
  obtain ⟨i0, hi, hz0, hz1, hz2⟩ := infoSlice
  have HI := Lib.hid (And.intro hi (And.intro hz0 (And.intro hz1 hz2)))
  clear hi hz0 hz1 hz2
  go_enter Tryz.func66, Tryz.ntmps66
  go_wp2_with ((at_builtin; refine wpList_append_own _ rfl _ _ 38 rfl w.heap.size 25 i0 (.slice none 0 0) 1 24 Tryz.underlying38 HI.out.1 HI.out.2.1 HI.out.2.2.1 HI.out.2.2.2 rfl (by decide) (.slice (some ⟨w.heap.size + 1 + 1, 0, none⟩) 1 1) 1 [.slice (some ⟨w.heap.size + 1, 0, none⟩) 1 1] rfl ?q1 ⟨b, off, none⟩ n c vs rfl (by rw [hl.out]; omega) ?q2 (vs_one (by rw [hl.out, hL.out]) hv.out) (by unfold maxLen; omega) (by omega) (by simp; omega) ?_; (case q1 => have := owns_lit ((w.alloc (.cells #[.int .i64 k, .string t, .int .i64 m, .int .i64 n] 37)).alloc (.cells #[.int .i64 k, .string t, .int .i64 m, .int .i64 n] 37)) w.heap.size (.slice (some ⟨w.heap.size + 1, 0, none⟩) 1 1) 25 (by simp; omega); simpa using this); (case q2 => exact (hc.out.kept ((below3 w _ _ _).block b hb)).at); intro v' w3 hown' hgrow hnil; have HO3 := Lib.hid hown'; have HG := Lib.hid hgrow; clear hown' hgrow hnil))
  have hnode := node_new (w.alloc (.cells #[.int .i64 k, .string t, .int .i64 m, .int .i64 n] 37)) ⟨k, t, m, n⟩
  have hbel3 : Below (w.heap.size + 1 + 1) ((w.alloc (.cells #[.int .i64 k, .string t, .int .i64 m, .int .i64 n] 37)).alloc (.cells #[.int .i64 k, .string t, .int .i64 m, .int .i64 n] 37)) w3 :=
    (((Below.refl _ _).alloc (by simp) _)).grown HG.out (by simp) fun q hq => by
      have hq' : some (w.heap.size + 1 + 1) = some q := hq
      simp at hq'
      omega
  have hbelw : Below w.heap.size w w3 := (below2 w _ _).trans (hbel3.mono (by omega))
  obtain ⟨g, c3, hv3, hg3, hL3⟩ := lists_owns (Ls := [⟨k, t, m, n⟩] :: Ls) HO3.out (by rw [List.length_cons, hL.out]; omega) (by omega) (fun i hi => by
    cases i with
    | zero =>
      refine NodesAt.below ?_ (show Below ((w.alloc (.cells #[.int .i64 k, .string t, .int .i64 m, .int .i64 n] 37)).alloc (.cells #[.int .i64 k, .string t, .int .i64 m, .int .i64 n] 37)).heap.size _ w3 by simpa using hbel3)
      simpa using hnode
    | succ i =>
      have := (hv.out i (by simpa using hi)).below hbelw
      simpa using this)
  have HL3 := Lib.hid hL3
  clear hL3 hnode
  subst hv3
  go_wp2_with fail
  refine (joinF_any g 0 c3 ([⟨k, t, m, n⟩] :: Ls) w3 hg3 HL3.out (by simp; have := hf.out; simp at this; omega) (by simp; rw [hL.out]; omega)).mono ?_
  rintro e w4 ⟨v', rfl, hv', hfr, hb4⟩
  have HV := Lib.hid hv'
  clear hv'
  go_wp2_with fail
  go_ret
  refine ⟨_, rfl, ?_, hfr.mono hbelw.size, hbelw.trans (hb4.mono hbelw.size)⟩
  have h9 := HV.out
  unfold makeN
  rw [hL.out]
  simp only [List.flatten_cons, List.singleton_append] at h9
  exact h9
theorem makeF_any (x : Nd) (v : Value) (Ls : List (List Nd)) (w : World) (h : ListsAt w v Ls) (hs : sumLen Ls) : Calls Tryz.prog 66 #[x.val, v] w (NRetF w (makeN x Ls)) := by
  obtain ⟨k, t, m, s⟩ := x
  obtain ⟨vs, ⟨hl, p, c, rfl, _, _, h4⟩, hv⟩ := h
  by_cases h0 : Ls.length = 0
  · obtain rfl : Ls = [] := List.eq_nil_of_length_eq_zero h0
    exact makeF_zero k m s t p c w
  · obtain ⟨b, off, rfl, hb, hc⟩ := h4 h0
    exact makeF_some k m s t b off Ls.length c vs Ls w hb hc (Lib.hid (by simpa using hl)) rfl (by omega) hs.1 hs.2 hv
end Go.Proofs.YtggjckalmlploaaGreatDoor
/- The parser: what nests. -/
set_option maxRecDepth 100000
namespace Go.Proofs.YtggjckalmlploaaGreatDoor
open Go.Shelf Go.RowKit Go.Lib Go.Proofs.TreeMath Go.Proofs.LexMath Go.Proofs.FixMath Go.Proofs.ParMath
/-- A function that returns nodes, and leaves the parser so. -/
def NP (C : Cfg) (p : Nat) (dp : Int) (r : List Nd × St) (W : World) (e : Ending) (w' : World) : Prop := ∃ v, e = .returned v ∧ NodesAt w' v r.1 ∧ Fresh W.heap.size v ∧ PS C p dp r.2 w' ∧ Bar p W w'
theorem PS.setDeep {C : Cfg} {p : Nat} {dp : Int} {s : St} {w : World} (h : PS C p dp s w) (d2 : Int) : PS C p d2 s (w.setCell ⟨p, 3, none⟩ (.int .i64 d2)) := by
  have B1 : Bar p w (w.setCell ⟨p, 3, none⟩ (.int .i64 d2)) := (Bar.refl p w).setCell 3 _
  obtain ⟨q, k, q2, k2, ht, _, _, _, _, _, _, _, _, ⟨fv, hb, hf, hfl⟩, hl⟩ := h.cells
  exact h.made (B1.low (Nat.le_of_lt h.lt)) _ fv (set_blk hb 3 _) hf hfl ht hl h.lim
theorem fresh_nil (B : Nat) : Fresh B (.slice none 0 0) := fun _ _ _ _ e => by simp at e
theorem nodes_nil (w : World) : NodesAt w (.slice none 0 0) [] := SliceAt.nil w 4
set_option maxHeartbeats 4000000 in
theorem nested_deep (C : Cfg) (p : Nat) (s : St) (fv : Value) (w0 : World) (h : PS C p 100 s w0) : Calls Tryz.prog 33 #[.pointer (some ⟨p, 0, none⟩), fv] w0 (NP C p 100 (deepM C s) w0) := by
  have h3 := h.c3
  have HERE := Lib.hid (here_any C p 100 s w0 h)
  have FAIL := Lib.hid (fail_any C p 100 s (here C s) 73 w0 h)
  clear h
  go_enter Tryz.func33, Tryz.ntmps33
  go_wp2_with fail
  refine HERE.out.mono ?_
  rintro e w1 ⟨rfl, rfl⟩
  go_wp2_with fail
  refine FAIL.out.mono ?_
  rintro e w2 ⟨rfl, hP, hB⟩
  have P2 := Lib.hid hP
  have B2 := Lib.hid hB
  clear hP hB h3
  go_wp2_with fail
  go_ret
  exact ⟨_, rfl, nodes_nil _, fresh_nil _, P2.out, B2.out⟩
set_option maxHeartbeats 4000000 in
theorem nested_any (C : Cfg) (p d : Nat) (s : St) (g : Nat) (cap : Array Value) (F : Par) (w0 : World) (hd : d < 100) (h : PS C p (d : Int) s w0) (hf : ∀ vs w, (callFunc g vs).run Tryz.prog w = .ok (.enter g vs) w)
    (hb : ∀ W, PS C p ((d : Int) + 1) s W → Bar p w0 W → Calls Tryz.prog g cap W (NP C p ((d : Int) + 1) (F s) W)) :
    Calls Tryz.prog 33 #[.pointer (some ⟨p, 0, none⟩), .func (.func g) #[] cap] w0 (NP C p (d : Int) (F s) w0) := by
  have h3 := h.c3
  have f3 := h.fz 3
  have hdz : ((d : Int) == 100) = false := by rw [beq_eq_false_iff_ne]; omega
  have hdb : (d : Int) < 100 := by omega
  have P1 := h.setDeep ((d : Int) + 1)
  have B1 : Bar p w0 (w0.setCell ⟨p, 3, none⟩ (.int .i64 ((d : Int) + 1))) := (Bar.refl p w0).setCell 3 _
  have HC := Lib.hid (hb _ P1 B1)
  have HB1 := Lib.hid B1
  have HF := Lib.hid hf
  clear h hf hb P1 B1
  generalize hR : F s = R at HC
  go_enter Tryz.func33, Tryz.ntmps33
  go_wp2_with ((refine wpList_call_slot (o := ⟨some 23, _, _, _, _, _⟩) rfl 22 _ _ rfl g cap rfl HF.out cap (by simp) ?_; refine HC.out.mono ?_; rintro e w1 ⟨v, rfl, hv, hfr, hP, hB⟩; have FR := Lib.hid hfr; refine ⟨_, rfl, ?_⟩; simp only [Act.put, List.setIfInBounds_toArray, List.set_cons_succ, List.set_cons_zero]; have HV := Lib.hid hv; have P1 := Lib.hid hP; have B1 := Lib.hid (HB1.out.trans hB); have k3 := hP.c3; have k4 := hP.fz 3; clear hv hfr hP hB h3 f3))
  go_ret
  have e : (d : Int) + 1 - 1 = (d : Int) := by omega
  have P2 := P1.out.setDeep (d : Int)
  have B2 : Bar p w1 (w1.setCell ⟨p, 3, none⟩ (.int .i64 (d : Int))) := (Bar.refl p w1).setCell 3 _
  exact ⟨_, rfl, HV.out.bar P1.out.noStr B2, FR.out.mono HB1.out.size, P2, B1.out.trans B2⟩
end Go.Proofs.YtggjckalmlploaaGreatDoor
