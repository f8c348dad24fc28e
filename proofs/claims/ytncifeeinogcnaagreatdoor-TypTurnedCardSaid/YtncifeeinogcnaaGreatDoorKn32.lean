/- Texts of this seat, one behind the other: RefMake, LaA, LaB, Same. -/
import Derived.Test.YtncifeeinogcnaaGreatDoorKn28
import Derived.Test.YtncifeeinogcnaaGreatDoorKn05
import Derived.Deep.AppendSrc
import Derived.Test.YtncifeeinogcnaaGreatDoorKn31
import Derived.Test.YtncifeeinogcnaaGreatDoorKn18
import Derived.Test.YtncifeeinogcnaaGreatDoorKn04
/- The document's own answers: Sub, Make. -/
set_option maxRecDepth 100000
namespace Go
theorem wpList_append_view {P : Program} (w : World) {ops : Array Oper} {rest : List Oper} {o : Oper} {a : Act} {Q : Exit → Act → World → Prop} (hgd : o.guard = none) (s x : Operand) (t : TypeId)
    (ho : o.op = .call { callee := .builtin .append, args := #[s, x], argTypes := #[t, t] })
    (base : Nat) (e : TypeId) (i : TypeInfo) (z : Value) (size bytes : Nat) (ht : P.underlying t = some (.slice e)) (hi : P.info? e = some i) (hz : i.zero = some z)
    (hsize : i.size = size) (hby : i.bytes = bytes) (hzs : z.cells.size = size) (hsz : 0 < size)
    (g n cap : Nat) (xs : List Value) (hs : a.eval s = .slice (some ⟨g, 0, none⟩) n cap) (hown : w.ownsRow base e size (.slice (some ⟨g, 0, none⟩) n cap) n xs)
    (q : Option Addr) (m c : Nat) (news : List Value) (hx : a.eval x = .slice q m c) (hl : news.length = m * size) (hq : m ≠ 0 → ∃ ad, q = some ad ∧ ∀ j u, news[j]? = some u → w.cell? (ad.add j) = some u) (h1 : ∀ u ∈ news, u.oneCell' = true)
    (h63 : n + m ≤ maxLen) (hbytes : (n + m) * bytes ≤ 140737488355328) (hbase : base ≤ w.heap.size)
    (h : ∀ v' w', w'.ownsRow base e size v' (n + m) (xs ++ news) → w.grownBy w' (some g) → (∃ g' cap', v' = .slice (some ⟨g', 0, none⟩) (n + m) cap') → wpList P ops Q rest (a.put o.dst v') w') : wpList P ops Q (o :: rest) a w := by
  by_cases h0 : m = 0
  · subst h0
    obtain rfl : news = [] := List.eq_nil_of_length_eq_zero (by rw [hl]; simp)
    have hsrc : Src P i.size t (.slice q 0 c) 0 [] w := by
      cases q with
      | none => exact Src.ofNil w ht c
      | some ad => exact Src.ofSlice w ht ad 0 c [] (by simp) (by simp) (by simp)
    have hcap : n + 0 ≤ cap := by
      rcases hown.2 with ⟨hh, _⟩ | ⟨g2, cap2, cur, hv, _, _, hn, _⟩
      · simp at hh
      · simp only [Value.slice.injEq] at hv
        omega
    have hr := run_append_room_src (P := P) w t t o.type e i ht hi g 0 n cap (.slice q 0 c) 0 [] hsrc hcap (by simp) (by simp)
    refine wpList_plain hgd fun K hK => ?_
    have h3 := h (.slice (some ⟨g, 0, none⟩) (n + 0) cap) w (by simpa using hown) ⟨rfl, rfl, rfl, Nat.le_refl _, fun _ _ _ => rfl⟩ ⟨_, _, rfl⟩
    unfold Oper.wp execOp
    simp only [ho, resolve, invoke, builtin, Sem.run_bind, Sem.run_pure, Result.andThen_ok, List.map_toArray, List.map_cons, List.map_nil, hs, hx, hr]
    exact hK _ _ h3
  · obtain ⟨ad, rfl, hnews⟩ := hq h0
    refine wpList_append_own w hgd s x t ho base e i z size bytes ht hi hz hsize hby hzs hsz _ n xs hs hown ad m c news hx hl hnews h1 h63 hbytes hbase fun v' w' h2 h3 h4 => h v' w' h2 h3 ?_
    rcases h2.2 with ⟨hh, h5⟩ | ⟨g', cap', cur, hv, _⟩
    · omega
    · exact ⟨g', cap', hv⟩
end Go
namespace Go.Proofs.YtncifeeinogcnaaGreatDoor
open Go.RowKit Go.Proofs.TreeMath
set_option maxHeartbeats 2000000 in
theorem ref_make_zero (k m s : Int) (t : ByteArray) (p : Option Addr) (c : Nat) (w : World) :
    Calls Tryz.prog 75 #[.agg #[.int .i64 k, .string t, .int .i64 m, .int .i64 s], .slice p 0 c] w (NRet w [⟨k, t, m, 0⟩]) := by
  go_enter Tryz.func75, Tryz.ntmps75
  go_wp2
  refine wp_loop_rounds 1 ?_
  rw [rounds_succ]
  go_wp2
  go_ret
  refine ⟨_, rfl, ?_, below2 w _ _⟩
  have := node_new (w.alloc (.cells #[.int .i64 k, .string t, .int .i64 m, .int .i64 s] 58)) ⟨k, t, m, 0⟩
  simpa using this
theorem owns_node (w : World) (base : Nat) (x : Nd) (h : base ≤ w.heap.size) : (w.alloc (.cells #[.int .i64 x.kind, .string x.text, .int .i64 x.num, .int .i64 x.kids] 58)).ownsRow base 58 4 (.slice (some ⟨w.heap.size, 0, none⟩) 1 1) 1 (nodeCells [x]) := by
  refine ⟨rfl, .inr ⟨w.heap.size, 1, #[.int .i64 x.kind, .string x.text, .int .i64 x.num, .int .i64 x.kids], rfl, h, alloc_at _ _, Nat.le_refl _, by unfold maxLen; omega, rfl, rfl⟩⟩
set_option maxHeartbeats 2000000 in
theorem ref_make_some (k m s : Int) (t : ByteArray) (b off n c : Nat) (Ls : List (List Nd)) (w : World) (hb : b < w.heap.size) (hL : Hid (Ls.length = n)) (hn0 : 0 < n) (hn : n ≤ 4000) (hf : Hid (Ls.flatten.length ≤ 900000)) (hv : Hid (Lists w b off Ls)) :
    Calls Tryz.prog 75 #[.agg #[.int .i64 k, .string t, .int .i64 m, .int .i64 s], .slice (some ⟨b, off, none⟩) n c] w (NRet w (makeN ⟨k, t, m, 0⟩ Ls)) := by
  obtain ⟨i0, hi, hz0, hz1, hz2⟩ := infoNode
  have HI := Lib.hid (And.intro hi (And.intro hz0 (And.intro hz1 hz2)))
  clear hi hz0 hz1 hz2
  go_enter Tryz.func75, Tryz.ntmps75
  go_wp2
  go_loopw [5, 6] (fun o q wr => ∃ (j A g cap : Nat), j ≤ n ∧ q = .int .i64 j ∧ o = .slice (some ⟨g, 0, none⟩) (A + 1) cap ∧ A = sumTo Ls j ∧ wr.ownsRow w.heap.size 58 4 (.slice (some ⟨g, 0, none⟩) (A + 1) cap) (A + 1) (nodeCells (⟨k, t, m, n⟩ :: (Ls.take j).flatten)) ∧ Below w.heap.size w wr) (fun _ q _ => n - (intOf q).toNat)
  case atStart =>
    refine ⟨0, 0, w.heap.size + 1, 1, Nat.zero_le _, rfl, rfl, rfl, ?_, below2 w _ _⟩
    have := owns_node (w.alloc (.cells #[.int .i64 k, .string t, .int .i64 m, .int .i64 s] 58)) w.heap.size ⟨k, t, m, n⟩ (by simp)
    simpa using this
  case round =>
    obtain ⟨j, A, g, cap, hj, rfl, rfl, hA, hown, hbel⟩ := hrel
    have HO := Lib.hid hown
    have HA := Lib.hid hA
    have hsz := hbel.size
    have hAb : A ≤ 900000 := by have := sumTo_le Ls j; have := hf.out; omega
    clear hown hA
    by_cases hlt : j < n
    · obtain ⟨p, x, cp, hcell, hx, hnode⟩ := (hv.out.below hbel hb).one j (by rw [hL.out]; exact hlt)
      have hs1 := sumTo_succ Ls j (by rw [hL.out]; exact hlt)
      have hs2 := sumTo_le Ls (j + 1)
      have hxb : A + x ≤ 900000 := by have := hf.out; have := HA.out; omega
      have hsrc : x ≠ 0 → ∃ ad, p = some ad ∧ ∀ i v, (nodeCells (Ls.getD j []))[i]? = some v → wr.cell? (ad.add i) = some v := by
        intro h0
        obtain ⟨_, p2, c2, h1, _, _, h4⟩ := hnode
        simp only [Value.slice.injEq] at h1
        obtain ⟨rfl, h2, _⟩ := h1
        obtain ⟨bb, oo, rfl, _, hc⟩ := h4 (by omega)
        exact ⟨_, rfl, hc.at⟩
      have HS : Hid (A + x = sumTo Ls (j + 1)) := Lib.hid (by have := HA.out; omega)
      obtain ⟨Y, hY⟩ : ∃ Y, Y = nodeCells (Ls.getD j []) := ⟨_, rfl⟩
      have hYl : Y.length = x * 4 := by rw [hY, length_nodeCells, hx]
      rw [← hY] at hsrc
      have HY := Lib.hid hY
      have HYl := Lib.hid hYl
      have HSrc := Lib.hid hsrc
      have H1 : Hid (∀ u ∈ Y, u.oneCell' = true) := Lib.hid (by rw [hY]; exact nodeCells_one _)
      clear hs1 hs2 hx hnode hY hYl hsrc
      go_wp2_with ((at_builtin; refine wpList_append_view _ rfl _ _ 22 rfl w.heap.size 58 i0 zeroNode 4 40 Tryz.underlying22 HI.out.1 HI.out.2.1 HI.out.2.2.1 HI.out.2.2.2 rfl (by decide) g (A + 1) cap _ rfl HO.out p x cp Y rfl HYl.out HSrc.out H1.out (by unfold maxLen; omega) (by omega) hsz ?_; intro v' w3 hown' hgrow hv3; obtain ⟨g3, c3, hv3⟩ := hv3; subst hv3; have HO3 := Lib.hid hown'; have hbel3 : Below w.heap.size w w3 := hbel.grown hgrow hsz (fun q hq => by have := HO.out.lt q hq; exact this.1); clear hown' hgrow))
      go_roundw
      case rel => exact ⟨j + 1, A + x, g3, c3, by omega, by go_num, by rw [show A + 1 + x = A + x + 1 by omega], HS.out, by
        have h9 := HO3.out
        rw [HY.out, ← nodeCells_append, List.cons_append, ← take_flat Ls j (by rw [hL.out]; exact hlt), show A + 1 + x = A + x + 1 by omega] at h9
        exact h9, hbel3⟩
      case measure => simp [intOf]; omega
    · obtain rfl : j = n := by omega
      go_wp2
      go_ret
      refine ⟨_, rfl, ?_, hbel⟩
      have h9 := SliceAt.of_owns HO.out
      have hA := HA.out
      rw [← hL.out, sumTo_all] at hA
      unfold makeN NodesAt
      rw [hL.out, List.length_cons, ← hA]
      rw [List.take_of_length_le (by rw [hL.out]; exact Nat.le_refl _)] at h9
      exact h9
theorem ref_make (x : Nd) (v : Value) (Ls : List (List Nd)) (w : World) (h : ListsAt w v Ls) (hs : sumLen Ls) : Calls Tryz.prog 75 #[x.val, v] w (NRet w (makeN x Ls)) := by
  obtain ⟨k, t, m, s⟩ := x
  obtain ⟨vs, ⟨hl, p, c, rfl, _, _, h4⟩, hv⟩ := h
  by_cases h0 : Ls.length = 0
  · obtain rfl : Ls = [] := List.eq_nil_of_length_eq_zero h0
    exact ref_make_zero k m s t p c w
  · obtain ⟨b, off, rfl, hb, hc⟩ := h4 h0
    refine ref_make_some k m s t b off Ls.length c Ls w hb rfl (by omega) hs.1 hs.2 ?_
    intro i hi
    refine ⟨vs.getD i default, hc i _ ?_, hv i hi⟩
    rw [List.getD_eq_getElem?_getD, List.getElem?_eq_getElem (by omega)]
    rfl
end Go.Proofs.YtncifeeinogcnaaGreatDoor
/- The law's own functions: Few, variable, fun. -/
set_option maxRecDepth 100000
namespace Go.Proofs.YtncifeeinogcnaaGreatDoor
open Go.RowKit Go.Lib Go.Maps Go.Proofs.TreeMath

/-- Nodes that are not too many, of texts that are not too long. -/
def fewB (t : List Nd) : Bool := (t.take 61).all (fun n => decide (n.text.size ≤ 60)) && decide (t.length ≤ 60)
theorem fewB_small {t : List Nd} (h : fewB t = true) : t.length ≤ 60 ∧ SmallN t := by
  unfold fewB at h
  simp only [Bool.and_eq_true, decide_eq_true_eq] at h
  refine ⟨h.2, fun f hf => ?_⟩
  have h1 := List.all_eq_true.1 h.1 f (by rw [List.take_of_length_le (by omega)]; exact hf)
  simp only [decide_eq_true_eq] at h1
  omega
set_option maxHeartbeats 1000000 in
theorem few_any (tv : Value) (t : List Nd) (w : World) (hns : NodesAt w tv t) : Calls Tryz.prog 10 #[tv] w fun e w' => e = .returned (.bool (fewB t)) ∧ w = w' := by
  obtain ⟨g1, q, c, rfl, g2, g3, g4⟩ := hns
  have CELL := Lib.hid g4
  have hmx : t.length ≤ 9223372036854775807 := by unfold maxLen at g3; omega
  have NO : Hid (∀ j, j < 61 → j < t.length → decide (60 < (t.getD j default).text.size) = true → fewB t = false) := Lib.hid fun j h61 hj h => by
    unfold fewB
    rw [show (t.take 61).all (fun n => decide (n.text.size ≤ 60)) = false from ?_, Bool.false_and]
    rw [List.all_eq_false]
    refine ⟨t.getD j default, ?_, by simp only [decide_eq_true_eq] at h ⊢; omega⟩
    rw [List.getD_eq_getElem?_getD, List.getElem?_eq_getElem hj, List.mem_take_iff_getElem]
    exact ⟨j, by omega, rfl⟩
  obtain ⟨l, hlen⟩ : ∃ l, l = t.length := ⟨_, rfl⟩
  have HL := Lib.hid hlen
  rw [← hlen] at NO hmx ⊢
  clear g1 g2 g3 g4 hlen
  go_enter Tryz.func10, Tryz.ntmps10
  go_wp2
  go_loop [3] (fun i => ∃ j : Nat, j ≤ l ∧ j ≤ 61 ∧ i = .int .i64 j ∧ Hid ((t.take j).all (fun n => decide (n.text.size ≤ 60)) = true)) (fun i => l - (intOf i).toNat)
  case atStart => exact ⟨0, Nat.zero_le _, by omega, rfl, Lib.hid rfl⟩
  case round =>
    obtain ⟨j, hj, h61, rfl, hn⟩ := hrel
    by_cases h60 : j < 61
    · by_cases hlt : j < l
      · obtain ⟨b, o, rfl, gb, gc⟩ := CELL.out (by rw [← HL.out]; omega)
        obtain ⟨n, hnn⟩ : ∃ n, n = t.getD j default := ⟨_, rfl⟩
        obtain ⟨_, a1, _, _⟩ := CellsIn.node gc j (by rw [← HL.out]; exact hlt)
        rw [← hnn] at a1
        have NOJ := Lib.hid (NO.out j h60 hlt)
        rw [← hnn] at NOJ
        have HNN := Lib.hid hnn
        have hd : ∀ b, decide (60 < n.text.size) = b → decide ((60 : Int) < (n.text.size : Int)) = b := fun b e => by rw [← e]; exact decide_eq_decide.2 (by omega)
        clear gb gc hnn
        cases hb : decide (60 < n.text.size) with
        | true =>
          have t1 := hd true hb
          have N := Lib.hid (NOJ.out hb)
          clear NOJ hd hb hn
          go_wp2
          go_ret
          exact ⟨by rw [N.out]; rfl, rfl⟩
        | false =>
          have t1 := hd false hb
          have Y : Hid ((t.take (j + 1)).all (fun n => decide (n.text.size ≤ 60)) = true) := Lib.hid (all_take _ t j (by rw [← HL.out]; exact hlt) hn.out (by rw [← HNN.out]; simp only [decide_eq_true_eq, decide_eq_false_iff_not] at hb ⊢; omega))
          clear NOJ hd hb hn
          go_wp2
          go_round
          case rel => exact ⟨j + 1, by omega, by omega, by go_num, Y⟩
          case measure => simp [intOf]; omega
      · obtain rfl : j = l := by omega
        have F : Hid (fewB t = decide ((j : Int) ≤ 60)) := Lib.hid (by
          unfold fewB
          rw [List.take_of_length_le (by rw [← HL.out]; omega)]
          have := hn.out
          rw [List.take_of_length_le (by rw [← HL.out]; omega)] at this
          rw [this, Bool.true_and, ← HL.out]
          exact decide_eq_decide.2 (by omega))
        have t0 : decide ((j : Int) < (j : Int)) = false := by simp
        clear hn hlt
        go_wp2
        go_ret
        exact ⟨by rw [F.out]; rfl, rfl⟩
    · obtain rfl : j = 61 := by omega
      by_cases hlt : 61 < l
      · have F : Hid (fewB t = false) := Lib.hid (by
          unfold fewB
          rw [decide_eq_false (by rw [← HL.out]; omega), Bool.and_false])
        have t2 : decide ((l : Int) ≤ 60) = false := by simp; omega
        clear hn
        go_wp2
        go_ret
        exact ⟨by rw [F.out]; rfl, rfl⟩
      · obtain rfl : l = 61 := by omega
        have F : Hid (fewB t = false) := Lib.hid (by
          unfold fewB
          rw [decide_eq_false (by rw [← HL.out]; omega), Bool.and_false])
        clear hn hlt
        go_wp2
        go_ret
        exact ⟨by rw [F.out]; rfl, rfl⟩
theorem lvar_any (v : Int) (w : World) : Calls Tryz.prog 38 #[.int .i64 v] w (NNew w [vN v]) := by
  have E : Hid (NNew w [vN v] (.returned (.slice (some ⟨w.heap.size, 0, none⟩) 1 1)) (w.alloc (.cells #[.int .i64 31, .string ⟨#[]⟩, .int .i64 v, .int .i64 0] 58))) := Lib.hid ⟨_, _, _, rfl, Nat.le_refl _, node_new w (vN v), (Below.refl _ _).alloc (Nat.le_refl _) _⟩
  go_enter Tryz.func38, Tryz.ntmps38
  go_wp2
  go_ret
  exact E.out
end Go.Proofs.YtncifeeinogcnaaGreatDoor
/- The law's own functions: fun. -/
set_option maxRecDepth 100000
namespace Go.Proofs.YtncifeeinogcnaaGreatDoor
open Go.RowKit Go.Lib Go.Maps Go.Proofs.TreeMath

theorem lists_pair (W : World) (u v : Value) (a b : List Nd) (ha : NodesAt W u a) (hb : NodesAt W v b) : ListsAt (W.alloc (.cells #[u, v] 22)) (.slice (some ⟨W.heap.size, 0, none⟩) 2 2) [a, b] := by
  have hc := lit_cells W #[u, v] 22
  have bl : Below W.heap.size W (W.alloc (.cells #[u, v] 22)) := (Below.refl _ W).alloc (Nat.le_refl _) _
  refine ⟨[u, v], ⟨rfl, _, _, rfl, Nat.le_refl _, by unfold maxLen; omega, fun _ => ⟨_, _, rfl, by simp, hc⟩⟩, fun i hi => ?_⟩
  match i, hi with
  | 0, _ => exact ha.below bl
  | 1, _ => exact hb.below bl
theorem fun_any (u v : Value) (a b : List Nd) (w : World) (ha : NodesAt w u a) (hb : NodesAt w v b) (hs : a.length + b.length ≤ 900000) : Calls Tryz.prog 37 #[u, v] w (NRet w (⟨32, sArrow, 0, 2⟩ :: (a ++ b))) := by
  have CALL := Lib.hid (ref_make ⟨32, sArrow, 0, 0⟩ _ [a, b] _ (lists_pair w u v a b ha hb) ⟨by simp, by simpa using hs⟩)
  rw [show makeN ⟨32, sArrow, 0, 0⟩ [a, b] = ⟨32, sArrow, 0, 2⟩ :: (a ++ b) by simp [makeN]] at CALL
  unfold Nd.val at CALL
  simp only at CALL
  have BA : Hid (Below w.heap.size w (w.alloc (.cells #[u, v] 22))) := Lib.hid ((Below.refl _ w).alloc (Nat.le_refl _) _)
  obtain ⟨pa, ca, ea⟩ : ∃ p c, u = .slice p a.length c := by obtain ⟨_, p, c, e, _⟩ := ha; exact ⟨p, c, e⟩
  obtain ⟨pb, cb, eb⟩ : ∃ p c, v = .slice p b.length c := by obtain ⟨_, p, c, e, _⟩ := hb; exact ⟨p, c, e⟩
  subst ea eb
  clear ha hb hs
  unfold sArrow at *
  go_enter Tryz.func37, Tryz.ntmps37
  go_wp2_with fail
  refine CALL.out.mono ?_
  rintro e w1 ⟨r, rfl, h1, b1⟩
  have E := Lib.hid (show NRet w (⟨32, ⟨#[45, 62]⟩, 0, 2⟩ :: (a ++ b)) (.returned r) w1 from ⟨r, rfl, h1, BA.out.trans (b1.mono BA.out.size)⟩)
  clear h1 b1 CALL
  go_wp2
  go_ret
  exact E.out
end Go.Proofs.YtncifeeinogcnaaGreatDoor
/- The comparing functions: Row, Same. -/
set_option maxRecDepth 100000
namespace Go.Proofs.YtncifeeinogcnaaGreatDoor
open Go.RowKit Go.Proofs.TreeMath
/-- A function that returns a bool. -/
def BRet (W : World) (b : Bool) (e : Ending) (w' : World) : Prop := ∃ b', b' = b ∧ e = .returned (.bool b') ∧ Below W.heap.size W w'
theorem row_far (p q : Option Addr) (n m c d : Nat) (w : World) (h : (n != m) = true) : Calls Tryz.prog 18 #[.slice p n c, .slice q m d] w (BRet w false) := by
  have h2 : ((n : Int) != (m : Int)) = true := by simp at h ⊢; omega
  have h3 : ((n : Int) == (m : Int)) = false := by simp at h ⊢; omega
  have h4 : (n == m) = false := by simp at h ⊢; omega
  go_enter Tryz.func18, Tryz.ntmps18
  go_wp2
  go_ret
  exact ⟨_, rfl, rfl, Below.refl _ _⟩
theorem same_far (p q : Option Addr) (n m c d : Nat) (w : World) (h : (n != m) = true) : Calls Tryz.prog 20 #[.slice p n c, .slice q m d] w (BRet w false) := by
  have h2 : ((n : Int) != (m : Int)) = true := by simp at h ⊢; omega
  have h3 : ((n : Int) == (m : Int)) = false := by simp at h ⊢; omega
  have h4 : (n == m) = false := by simp at h ⊢; omega
  go_enter Tryz.func20, Tryz.ntmps20
  go_wp2
  go_ret
  exact ⟨_, rfl, rfl, Below.refl _ _⟩
theorem row_zero (p q : Option Addr) (c d : Nat) (w : World) : Calls Tryz.prog 18 #[.slice p 0 c, .slice q 0 d] w (BRet w true) := by
  go_enter Tryz.func18, Tryz.ntmps18
  go_wp2
  refine wp_loop_rounds 1 ?_
  rw [rounds_succ]
  go_wp2
  go_ret
  exact ⟨_, rfl, rfl, Below.refl _ _⟩
theorem same_zero (p q : Option Addr) (c d : Nat) (w : World) : Calls Tryz.prog 20 #[.slice p 0 c, .slice q 0 d] w (BRet w true) := by
  go_enter Tryz.func20, Tryz.ntmps20
  go_wp2
  refine wp_loop_rounds 1 ?_
  rw [rounds_succ]
  go_wp2
  go_ret
  exact ⟨_, rfl, rfl, Below.refl _ _⟩
theorem list_eq_pre {α : Type} (d : α) (xs ys : List α) (hl : xs.length = ys.length) (h : ∀ i, i < xs.length → xs.getD i d = ys.getD i d) : xs = ys := by
  refine List.ext_getElem hl fun i h1 h2 => ?_
  have := h i h1
  simpa [List.getD_eq_getElem?_getD, List.getElem?_eq_getElem h1, List.getElem?_eq_getElem h2] using this
set_option maxHeartbeats 1000000 in
theorem row_any' (b off b2 off2 c d n : Nat) (xs ys : List Int) (w : World) (hx : Hid (xs.length = n)) (hy : Hid (ys.length = n)) (h1 : Hid (CellsIn w b off (intCells xs))) (h2 : Hid (CellsIn w b2 off2 (intCells ys))) (hb : b < w.heap.size) (hb2 : b2 < w.heap.size) (hn : n ≤ 1000000) (hn0 : 0 < n) :
    Calls Tryz.prog 18 #[.slice (some ⟨b, off, none⟩) n c, .slice (some ⟨b2, off2, none⟩) n d] w (BRet w (decide (xs = ys))) := by
  go_enter Tryz.func18, Tryz.ntmps18
  go_wp2
  go_loopw [5] (fun i wr => ∃ k : Nat, k ≤ n ∧ i = .int .i64 k ∧ Below w.heap.size w wr ∧ ∀ j, j < k → xs.getD j 0 = ys.getD j 0) (fun i _ => n - (intOf i).toNat)
  case atStart => exact ⟨0, Nat.zero_le _, rfl, Below.refl _ _, fun j hj => by omega⟩
  case round =>
    obtain ⟨k, hk, rfl, hbel, hpre⟩ := hrel
    have HP := Lib.hid hpre
    clear hpre
    by_cases hlt : k < n
    · have c1 := (hbel.cell (p := ⟨b, off + k, none⟩) hb).trans (h1.out.int k (by rw [hx.out]; exact hlt))
      have c2 := (hbel.cell (p := ⟨b2, off2 + k, none⟩) hb2).trans (h2.out.int k (by rw [hy.out]; exact hlt))
      obtain ⟨x, hxk⟩ : ∃ x, x = xs.getD k 0 := ⟨_, rfl⟩
      obtain ⟨y, hyk⟩ : ∃ y, y = ys.getD k 0 := ⟨_, rfl⟩
      rw [← hxk] at c1
      rw [← hyk] at c2
      have HX := Lib.hid hxk
      have HY := Lib.hid hyk
      clear hxk hyk
      by_cases hxy : x = y
      · subst hxy
        go_wp2
        go_region
        go_wp2
        go_roundw
        case rel => exact ⟨k + 1, by omega, by go_num, hbel.drew, fun j hj => by
          rcases Nat.lt_or_ge j k with h | h
          · exact HP.out j h
          · rw [show j = k by omega, ← HX.out, ← HY.out]⟩
        case measure => simp [intOf]; omega
      · have hne : (x != y) = true := by simpa using hxy
        go_wp2
        go_region
        go_wp2
        go_ret
        refine ⟨_, ?_, rfl, hbel.drew⟩
        symm
        rw [decide_eq_false_iff_not]
        intro h
        apply hxy
        rw [HX.out, HY.out, h]
    · go_wp2
      go_ret
      refine ⟨_, ?_, rfl, hbel⟩
      symm
      rw [decide_eq_true_eq]
      exact list_eq_pre 0 xs ys (by rw [hx.out, hy.out]) fun i hi => HP.out i (by rw [hx.out] at hi; omega)
set_option maxHeartbeats 2000000 in
theorem same_any' (b off b2 off2 c d n : Nat) (xs ys : List Nd) (w : World) (hx : Hid (xs.length = n)) (hy : Hid (ys.length = n)) (h1 : Hid (CellsIn w b off (nodeCells xs))) (h2 : Hid (CellsIn w b2 off2 (nodeCells ys))) (hb : b < w.heap.size) (hb2 : b2 < w.heap.size) (hn : n ≤ 1000000) (hn0 : 0 < n) :
    Calls Tryz.prog 20 #[.slice (some ⟨b, off, none⟩) n c, .slice (some ⟨b2, off2, none⟩) n d] w (BRet w (decide (xs = ys))) := by
  go_enter Tryz.func20, Tryz.ntmps20
  go_wp2
  go_loopw [5] (fun i wr => ∃ k : Nat, k ≤ n ∧ i = .int .i64 k ∧ Below w.heap.size w wr ∧ ∀ j, j < k → xs.getD j default = ys.getD j default) (fun i _ => n - (intOf i).toNat)
  case atStart => exact ⟨0, Nat.zero_le _, rfl, Below.refl _ _, fun j hj => by omega⟩
  case round =>
    obtain ⟨k, hk, rfl, hbel, hpre⟩ := hrel
    have HP := Lib.hid hpre
    clear hpre
    by_cases hlt : k < n
    · obtain ⟨a1, a2, a3, a4⟩ := h1.out.node k (by rw [hx.out]; exact hlt)
      obtain ⟨e1, e2, e3, e4⟩ := h2.out.node k (by rw [hy.out]; exact hlt)
      have a1 := (hbel.cell (p := ⟨b, off + k * 4, none⟩) hb).trans a1
      have a2 := (hbel.cell (p := ⟨b, off + k * 4 + 1, none⟩) hb).trans a2
      have a3 := (hbel.cell (p := ⟨b, off + k * 4 + 2, none⟩) hb).trans a3
      have a4 := (hbel.cell (p := ⟨b, off + k * 4 + 3, none⟩) hb).trans a4
      have e1 := (hbel.cell (p := ⟨b2, off2 + k * 4, none⟩) hb2).trans e1
      have e2 := (hbel.cell (p := ⟨b2, off2 + k * 4 + 1, none⟩) hb2).trans e2
      have e3 := (hbel.cell (p := ⟨b2, off2 + k * 4 + 2, none⟩) hb2).trans e3
      have e4 := (hbel.cell (p := ⟨b2, off2 + k * 4 + 3, none⟩) hb2).trans e4
      obtain ⟨x, hxk⟩ : ∃ x, x = xs.getD k default := ⟨_, rfl⟩
      obtain ⟨y, hyk⟩ : ∃ y, y = ys.getD k default := ⟨_, rfl⟩
      rw [← hxk] at a1 a2 a3 a4
      rw [← hyk] at e1 e2 e3 e4
      have HX := Lib.hid hxk
      have HY := Lib.hid hyk
      clear hxk hyk
      obtain ⟨x1, x2, x3, x4⟩ := x
      obtain ⟨y1, y2, y3, y4⟩ := y
      simp only at a1 a2 a3 a4 e1 e2 e3 e4
      by_cases g1 : x1 = y1
      · subst g1
        by_cases g2 : x2 = y2
        · subst g2
          by_cases g3 : x3 = y3
          · subst g3
            by_cases g4 : x4 = y4
            · subst g4
              go_wp2
              go_region
              go_wp2
              go_roundw
              case rel => exact ⟨k + 1, by omega, by go_num, hbel.drew, fun j hj => by
                rcases Nat.lt_or_ge j k with h | h
                · exact HP.out j h
                · rw [show j = k by omega, ← HX.out, ← HY.out]⟩
              case measure => simp [intOf]; omega
            · have f1 : (x4 == y4) = false := by simpa using g4
              have f2 : (x4 != y4) = true := by simpa using g4
              go_wp2
              go_region
              go_wp2
              go_ret
              refine ⟨_, ?_, rfl, hbel.drew⟩
              symm
              rw [decide_eq_false_iff_not]
              intro h
              apply g4
              have h9 := HX.out.trans ((congrArg (fun l => List.getD l k default) h).trans HY.out.symm)
              exact congrArg Nd.kids h9
          · have f1 : (x3 == y3) = false := by simpa using g3
            have f2 : (x3 != y3) = true := by simpa using g3
            go_wp2
            go_region
            go_wp2
            go_ret
            refine ⟨_, ?_, rfl, hbel.drew⟩
            symm
            rw [decide_eq_false_iff_not]
            intro h
            apply g3
            have h9 := HX.out.trans ((congrArg (fun l => List.getD l k default) h).trans HY.out.symm)
            exact congrArg Nd.num h9
        · have f3 : (x2.toList == y2.toList) = false := by
            rw [beq_eq_false_iff_ne]
            intro h
            exact g2 (Go.WideShapes.bytes_inj (by simpa [ByteArray.toList_eq] using h))
          go_wp2
          go_region
          go_wp2
          go_ret
          refine ⟨_, ?_, rfl, hbel.drew⟩
          symm
          rw [decide_eq_false_iff_not]
          intro h
          apply g2
          have h9 := HX.out.trans ((congrArg (fun l => List.getD l k default) h).trans HY.out.symm)
          exact congrArg Nd.text h9
      · have f1 : (x1 == y1) = false := by simpa using g1
        have f2 : (x1 != y1) = true := by simpa using g1
        go_wp2
        go_region
        go_wp2
        go_ret
        refine ⟨_, ?_, rfl, hbel.drew⟩
        symm
        rw [decide_eq_false_iff_not]
        intro h
        apply g1
        have h9 := HX.out.trans ((congrArg (fun l => List.getD l k default) h).trans HY.out.symm)
        exact congrArg Nd.kind h9
    · go_wp2
      go_ret
      refine ⟨_, ?_, rfl, hbel⟩
      symm
      rw [decide_eq_true_eq]
      exact list_eq_pre default xs ys (by rw [hx.out, hy.out]) fun i hi => HP.out i (by rw [hx.out] at hi; omega)
theorem row_any (v v2 : Value) (xs ys : List Int) (w : World) (h : IntsAt w v xs) (h2 : IntsAt w v2 ys) (hn : xs.length ≤ 1000000) : Calls Tryz.prog 18 #[v, v2] w (BRet w (decide (xs = ys))) := by
  obtain ⟨_, p, c, rfl, _, _, hp⟩ := h
  obtain ⟨_, q, d, rfl, _, _, hq⟩ := h2
  by_cases hl : xs.length = ys.length
  · by_cases h0 : xs.length = 0
    · obtain rfl : xs = [] := List.eq_nil_of_length_eq_zero h0
      obtain rfl : ys = [] := List.eq_nil_of_length_eq_zero (by rw [← hl]; rfl)
      exact row_zero p q c d w
    · obtain ⟨b, off, rfl, hb, hc⟩ := hp h0
      obtain ⟨b2, off2, rfl, hb2, hc2⟩ := hq (by omega)
      rw [← hl]
      exact row_any' b off b2 off2 c d xs.length xs ys w rfl hl.symm hc hc2 hb hb2 hn (Nat.pos_of_ne_zero h0)
  · rw [decide_eq_false (fun e => hl (by rw [e]))]
    exact row_far p q _ _ c d w (by simpa using hl)
theorem same_any (v v2 : Value) (xs ys : List Nd) (w : World) (h : NodesAt w v xs) (h2 : NodesAt w v2 ys) (hn : xs.length ≤ 1000000) : Calls Tryz.prog 20 #[v, v2] w (BRet w (decide (xs = ys))) := by
  obtain ⟨_, p, c, rfl, _, _, hp⟩ := h
  obtain ⟨_, q, d, rfl, _, _, hq⟩ := h2
  by_cases hl : xs.length = ys.length
  · by_cases h0 : xs.length = 0
    · obtain rfl : xs = [] := List.eq_nil_of_length_eq_zero h0
      obtain rfl : ys = [] := List.eq_nil_of_length_eq_zero (by rw [← hl]; rfl)
      exact same_zero p q c d w
    · obtain ⟨b, off, rfl, hb, hc⟩ := hp h0
      obtain ⟨b2, off2, rfl, hb2, hc2⟩ := hq (by omega)
      rw [← hl]
      exact same_any' b off b2 off2 c d xs.length xs ys w rfl hl.symm hc hc2 hb hb2 hn (Nat.pos_of_ne_zero h0)
  · rw [decide_eq_false (fun e => hl (by rw [e]))]
    exact same_far p q _ _ c d w (by simpa using hl)
end Go.Proofs.YtncifeeinogcnaaGreatDoor
