/- Texts of this seat, one behind the other: DaR, KidsFn, Kids, RefMake. -/
import Derived.Test.YtncifeeinogcnaaGreatDoorKn25
import Derived.Test.YtncifeeinogcnaaGreatDoorKn22
import Derived.BigQuiet
import Derived.Lib.QuietBelow
import Derived.Test.YtncifeeinogcnaaGreatDoorKn02
import Derived.Maps.AppendAt
import Derived.Test.YtncifeeinogcnaaGreatDoorKn03
import Derived.Deep.AppendSrc
/- The document's Types. -/
set_option maxRecDepth 100000
namespace Go.Proofs.YtncifeeinogcnaaGreatDoor
open Go.Shelf Go.RowKit Go.Lib Go.Sort Go.Maps Go.Proofs.TreeMath Go.Proofs.LexMath

theorem lists_cell {w : World} {v : Value} {Ls : List (List Nd)} (h : ListsAt w v Ls) (i : Nat) (hi : i < Ls.length) : ∃ b off c q cc, v = .slice (some ⟨b, off, none⟩) Ls.length c ∧ b < w.heap.size ∧ w.cell? ⟨b, off + i, none⟩ = some (.slice q (Ls.getD i []).length cc) ∧ NodesAt w (.slice q (Ls.getD i []).length cc) (Ls.getD i []) := by
  obtain ⟨vs, ⟨hvl, lq, lc, rfl, _, _, hp⟩, hvs⟩ := h
  obtain ⟨b, off, rfl, hb, hc⟩ := hp (by omega)
  have n := hvs i hi
  obtain ⟨q, cc, e⟩ := nodes_form' n
  have c0 := hc i (vs.getD i default) (by rw [List.getD_eq_getElem?_getD, List.getElem?_eq_getElem (by omega)]; rfl)
  rw [e] at c0 n
  exact ⟨b, off, lc, q, cc, rfl, hb, c0, n⟩
theorem take_eq_succ {α : Type} [Inhabited α] (a b : List α) (d : α) (i : Nat) (ha : i < a.length) (hb : i < b.length) : a.take (i + 1) = b.take (i + 1) ↔ a.take i = b.take i ∧ a.getD i d = b.getD i d := by
  rw [List.take_succ_eq_append_getElem ha, List.take_succ_eq_append_getElem hb, List.getD_eq_getElem?_getD, List.getD_eq_getElem?_getD, List.getElem?_eq_getElem ha, List.getElem?_eq_getElem hb]
  constructor
  · intro h
    have := List.append_inj h (by rw [List.length_take, List.length_take]; omega)
    exact ⟨this.1, by simpa using this.2⟩
  · rintro ⟨h1, h2⟩
    rw [h1]
    simp only [Option.getD_some] at h2
    rw [h2]
set_option maxHeartbeats 1000000 in
theorem types_any (v1 v2 : Value) (A B : List (List Nd)) (w : World) (h1 : ListsAt w v1 A) (h2 : ListsAt w v2 B) (hn : A.length ≤ 1000000) (hs : ∀ t ∈ A, t.length ≤ 1000000) : Calls Tryz.prog 36 #[v1, v2] w (BRw (decide (A = B)) w) := by
  have H1 := Lib.hid h1
  have H2 := Lib.hid h2
  have HS := Lib.hid hs
  obtain ⟨q1, c1, e1⟩ := h1.form
  obtain ⟨q2, c2, e2⟩ := h2.form
  have EQ1 := Lib.hid e1
  have EQ2 := Lib.hid e2
  obtain ⟨n, hnn⟩ : ∃ n, n = A.length := ⟨_, rfl⟩
  obtain ⟨m, hmm⟩ : ∃ m, m = B.length := ⟨_, rfl⟩
  have HN := Lib.hid hnn
  have HM := Lib.hid hmm
  have E : Hid (∀ y w', decide (A = B) = y → Below w.heap.size w w' → BRw (decide (A = B)) w (.returned (.bool y)) w') := Lib.hid fun y w' e b => ⟨by rw [e], b⟩
  generalize BRw (decide (A = B)) w = Z at E ⊢
  rw [e1, e2, ← hnn, ← hmm]
  by_cases hne : n = m
  · have t1 : ((n : Int) != (m : Int)) = false := by simp [hne]
    have HE := Lib.hid hne
    have hn6 : n ≤ 1000000 := by omega
    subst hne
    clear h1 h2 e1 e2 hnn hmm hn hs
    go_enter Tryz.func36, Tryz.ntmps36
    go_wp2
    go_loopw [5] (fun s5 wr => ∃ i : Nat, i ≤ n ∧ s5 = .int .i64 i ∧ Hid (A.take i = B.take i) ∧ Hid (Below w.heap.size w wr)) (fun s5 _ => n - (intOf s5).toNat)
    case atStart => exact ⟨0, Nat.zero_le _, rfl, Lib.hid rfl, Lib.hid (Below.refl _ _)⟩
    case round =>
      obtain ⟨wo, hwo⟩ : ∃ wo : World, wo = wr := ⟨_, rfl⟩
      subst hwo
      obtain ⟨i, hi, rfl, hT, hB⟩ := hrel
      by_cases hlt : i < n
      · have k2 : ((i : Int) < (n : Int)) := by omega
        obtain ⟨b, off, c, qa, ca, e1, hb, x0, na⟩ := lists_cell H1.out i (by rw [← HN.out]; exact hlt)
        obtain ⟨b2, off2, c', qb, cb, e2, hb2, y0, nb⟩ := lists_cell H2.out i (by rw [← HM.out]; exact hlt)
        rw [EQ1.out] at e1
        rw [EQ2.out] at e2
        simp only [Value.slice.injEq] at e1 e2
        obtain ⟨rfl, -, -⟩ := e1
        obtain ⟨rfl, -, -⟩ := e2
        have c0 := (hB.out.cell (p := ⟨b, off + i, none⟩) hb).trans x0
        have d0 := (hB.out.cell (p := ⟨b2, off2 + i, none⟩) hb2).trans y0
        have SX := Lib.hid (na.below hB.out)
        have SY := Lib.hid (nb.below hB.out)
        have hx4 := HS.out (A.getD i []) (by rw [List.getD_eq_getElem?_getD, List.getElem?_eq_getElem (by rw [← HN.out]; exact hlt)]; exact List.getElem_mem _)
        have SAME := Lib.hid (fun W (hW : Below wo.heap.size wo W) => same_any _ _ (A.getD i []) (B.getD i []) W (SX.out.below hW) (SY.out.below hW) hx4)
        have TS := Lib.hid (take_eq_succ A B [] i (by rw [← HN.out]; exact hlt) (by rw [← HM.out]; exact hlt))
        obtain ⟨la, hla⟩ : ∃ l, l = (A.getD i []).length := ⟨_, rfl⟩
        obtain ⟨lb, hlb⟩ : ∃ l, l = (B.getD i []).length := ⟨_, rfl⟩
        rw [← hla] at SAME c0
        rw [← hlb] at SAME d0
        clear hla hlb hx4 na nb x0 y0 hb hb2 SX SY
        cases hd : decide (A.getD i [] = B.getD i []) with
        | false =>
          have NE : Hid (decide (A = B) = false) := Lib.hid (decide_eq_false fun e => by subst e; simp at hd)
          rw [hd] at SAME
          have SAME2 : Hid (∀ W, Below wo.heap.size wo W → Calls Tryz.prog 20 #[.slice qa la ca, .slice qb lb cb] W fun e w' => e = .returned (.bool false) ∧ Below W.heap.size W w') := Lib.hid fun W hW => (SAME.out W hW).mono fun e w' h => by obtain ⟨b', rfl, rfl, b⟩ := h; exact And.intro rfl b
          clear hd SAME TS hT
          go_wp2
          have e0 := cell_regrown c0
          have e2 := cell_regrown d0
          clear c0 d0
          refine wp_region_quiet_below (by kernel_rfl) (by kernel_rfl) ?_
          repeat (go_big_quiet_step ((go_at_call 20; with_reducible exact Calls.regrown_of (SAME2.out _ (below_regrown wo _ _)))))
          refine wpQuiet_nil ?_
          intro _ hw'
          obtain ⟨⟨dq, osq⟩, hw''⟩ := hw'
          subst hw''
          have B5 := Lib.hid (hB.out.trans ((below_regrown wo dq osq).mono hB.out.size))
          clear e0 e2 SAME2
          go_wp2
          first | go_ret | skip
          exact E.out _ _ NE.out B5.out
        | true =>
          have TN : Hid (A.take (i + 1) = B.take (i + 1)) := Lib.hid (TS.out.2 ⟨hT.out, of_decide_eq_true hd⟩)
          rw [hd] at SAME
          have SAME2 : Hid (∀ W, Below wo.heap.size wo W → Calls Tryz.prog 20 #[.slice qa la ca, .slice qb lb cb] W fun e w' => e = .returned (.bool true) ∧ Below W.heap.size W w') := Lib.hid fun W hW => (SAME.out W hW).mono fun e w' h => by obtain ⟨b', rfl, rfl, b⟩ := h; exact And.intro rfl b
          clear hd SAME TS hT
          go_wp2
          have e0 := cell_regrown c0
          have e2 := cell_regrown d0
          clear c0 d0
          refine wp_region_quiet_below (by kernel_rfl) (by kernel_rfl) ?_
          repeat (go_big_quiet_step ((go_at_call 20; with_reducible exact Calls.regrown_of (SAME2.out _ (below_regrown wo _ _)))))
          refine wpQuiet_nil ?_
          intro _ hw'
          obtain ⟨⟨dq, osq⟩, hw''⟩ := hw'
          subst hw''
          have B5 := Lib.hid (hB.out.trans ((below_regrown wo dq osq).mono hB.out.size))
          clear e0 e2 SAME2
          go_wp2
          go_roundw
          case rel => exact ⟨i + 1, hlt, by go_num, TN, B5⟩
          case measure => simp [intOf]; omega
      · obtain rfl : i = n := by omega
        have YE : Hid (decide (A = B) = true) := Lib.hid (decide_eq_true (by
          have := hT.out
          rwa [List.take_of_length_le (by rw [← HN.out]; exact Nat.le_refl _), List.take_of_length_le (by rw [← HM.out]; exact Nat.le_refl _)] at this))
        have B5 := Lib.hid hB.out
        clear hT hB
        go_wp2
        first | go_ret | skip
        exact E.out _ _ YE.out B5.out
  · have t1 : ((n : Int) != (m : Int)) = true := by simp; omega
    have NE : Hid (decide (A = B) = false) := Lib.hid (decide_eq_false fun e => hne (by rw [hnn, hmm, e]))
    clear h1 h2 e1 e2 hnn hmm hn hs hne
    go_enter Tryz.func36, Tryz.ntmps36
    go_wp2
    first | go_ret | skip
    exact E.out _ _ NE.out (Below.refl _ _)
end Go.Proofs.YtncifeeinogcnaaGreatDoor
/- The indexes of the kids: tree.Kids. -/
namespace Go.Proofs.YtncifeeinogcnaaGreatDoor
open Go.RowKit Go.Proofs.TreeMath
theorem info_of {P : Program} {t : TypeId} {z : Value} {s b : Nat} (h : (P.info? t).map (fun i => (i.zero, i.size, i.bytes)) = some (some z, s, b)) : ∃ i, P.info? t = some i ∧ i.zero = some z ∧ i.size = s ∧ i.bytes = b := by
  cases hq : P.info? t with
  | none => rw [hq] at h; simp at h
  | some i => rw [hq] at h; simp at h; exact ⟨i, rfl, h.1, h.2.1, h.2.2⟩
theorem infoInt : ∃ i, Tryz.prog.info? 3 = some i ∧ i.zero = some (.int .i64 0) ∧ i.size = 1 ∧ i.bytes = 8 := info_of (by kernel_rfl)
theorem owns_slice {w : World} {base : Nat} {e : TypeId} {size n : Nat} {v : Value} {xs : List Value} (h : w.ownsRow base e size v n xs) (hn : 0 < n) : ∃ g cap, v = .slice (some ⟨g, 0, none⟩) n cap ∧ base ≤ g ∧ g < w.heap.size := by
  rcases h.2 with ⟨_, h0⟩ | ⟨g, cap, cur, rfl, hb, hg, _⟩
  · omega
  · exact ⟨g, cap, rfl, hb, (Array.getElem?_eq_some_iff.1 hg).1⟩
end Go.Proofs.YtncifeeinogcnaaGreatDoor
/- tree.Kids: the search with the function that gathers the kids. -/
namespace Go.Proofs.YtncifeeinogcnaaGreatDoor
open Go.RowKit Go.Proofs.TreeMath
def ofNats (xs : List Nat) : List Int := xs.map Int.ofNat
/-- What stands while the kids of the node at t are gathered: W the world at the call; the block of the list at H, of the index at H + 1, of the kids at H + 2. -/
structure KMem (W : World) (b off n c t : Nat) (outs : List Nat) (w : World) : Prop where
  below : Below W.heap.size W w
  blkB : w.heap[W.heap.size]? = some (.cells #[.slice (some ⟨b, off, none⟩) n c] 22 (0, 0))
  blkA : w.heap[W.heap.size + 1]? = some (.cells #[.int .i64 t] 3 (0, 0))
  kids : ∃ p cap, w.heap[W.heap.size + 1 + 1]? = some (.cells #[.slice p outs.length cap] 30 (0, 0)) ∧ w.ownsRow (W.heap.size + 3) 3 1 (.slice p outs.length cap) outs.length (intCells (ofNats outs))
  size : W.heap.size + 3 ≤ w.heap.size
theorem KMem.drew {W : World} {b off n c t : Nat} {outs : List Nat} {w : World} (h : KMem W b off n c t outs w) : KMem W b off n c t outs w.drew := by
  obtain ⟨h1, h2, h3, h4, h5⟩ := h
  exact ⟨h1.drew, h2, h3, h4, h5⟩
theorem alloc_at (w : World) (o : Obj) : (w.alloc o).heap[w.heap.size]? = some o := by
  show (w.heap.push o)[w.heap.size]? = some o
  simp
def KRet (W : World) (xs : List Int) (e : Ending) (w' : World) : Prop := ∃ v', e = .returned v' ∧ IntsAt w' v' xs ∧ Below W.heap.size W w'
end Go.Proofs.YtncifeeinogcnaaGreatDoor
/- The document's own answers: Sub, Make. -/
set_option maxRecDepth 100000
namespace Go
theorem wpList_append_view {P : Program} (w : World) {ops : Array Oper} {rest : List Oper} {o : Oper} {a : Act} {Q : Exit → Act → World → Prop} (hgd : o.guard = none) (s x : Operand) (t : TypeId)
    (ho : o.op = .call { callee := .builtin .append, args := #[s, x], argTypes := #[t, t] })
    (base : Nat) (e : TypeId) (i : TypeInfo) (z : Value) (size bytes : Nat) (ht : P.underlying t = some (.slice e)) (hi : P.info? e = some i) (hz : i.zero = some z)
    (hsize : i.size = size) (hby : i.bytes = bytes) (hzs : z.cells.size = size) (hsz : 0 < size)
    (g n cap : Nat) (xs : List Value) (hs : a.eval s = .slice (some ⟨g, 0, none⟩) n cap) (hown : w.ownsRow base e size (.slice (some ⟨g, 0, none⟩) n cap) n xs)
    (q : Option Addr) (m c : Nat) (news : List Value) (hx : a.eval x = .slice q m c) (hl : news.length = m * size) (hq : m ≠ 0 → ∃ ad, q = some ad ∧ ∀ j u, news[j]? = some u → w.cell? (ad.add j) = some u) (h1 : ∀ u ∈ news, u.oneCell' = true)
    (h63 : n + m ≤ maxLen) (hbytes : (n + m) * bytes ≤ 140737488355328) (hbase : base ≤ w.heap.size)
    (h : ∀ v' w', w'.ownsRow base e size v' (n + m) (xs ++ news) → w.grownBy w' (some g) → (∃ g' cap', v' = .slice (some ⟨g', 0, none⟩) (n + m) cap') → wpList P ops Q rest (a.put o.dst v') w') : wpList P ops Q (o :: rest) a w := by
  by_cases h0 : m = 0
  · subst h0
    obtain rfl : news = [] := List.eq_nil_of_length_eq_zero (by rw [hl]; simp)
    have hsrc : Src P i.size t (.slice q 0 c) 0 [] w := by
      cases q with
      | none => exact Src.ofNil w ht c
      | some ad => exact Src.ofSlice w ht ad 0 c [] (by simp) (by simp) (by simp)
    have hcap : n + 0 ≤ cap := by
      rcases hown.2 with ⟨hh, _⟩ | ⟨g2, cap2, cur, hv, _, _, hn, _⟩
      · simp at hh
      · simp only [Value.slice.injEq] at hv
        omega
    have hr := run_append_room_src (P := P) w t t o.type e i ht hi g 0 n cap (.slice q 0 c) 0 [] hsrc hcap (by simp) (by simp)
    refine wpList_plain hgd fun K hK => ?_
    have h3 := h (.slice (some ⟨g, 0, none⟩) (n + 0) cap) w (by simpa using hown) ⟨rfl, rfl, rfl, Nat.le_refl _, fun _ _ _ => rfl⟩ ⟨_, _, rfl⟩
    unfold Oper.wp execOp
    simp only [ho, resolve, invoke, builtin, Sem.run_bind, Sem.run_pure, Result.andThen_ok, List.map_toArray, List.map_cons, List.map_nil, hs, hx, hr]
    exact hK _ _ h3
  · obtain ⟨ad, rfl, hnews⟩ := hq h0
    refine wpList_append_own w hgd s x t ho base e i z size bytes ht hi hz hsize hby hzs hsz _ n xs hs hown ad m c news hx hl hnews h1 h63 hbytes hbase fun v' w' h2 h3 h4 => h v' w' h2 h3 ?_
    rcases h2.2 with ⟨hh, h5⟩ | ⟨g', cap', cur, hv, _⟩
    · omega
    · exact ⟨g', cap', hv⟩
end Go
namespace Go.Proofs.YtncifeeinogcnaaGreatDoor
open Go.RowKit Go.Proofs.TreeMath
set_option maxHeartbeats 2000000 in
theorem ref_make_zero (k m s : Int) (t : ByteArray) (p : Option Addr) (c : Nat) (w : World) :
    Calls Tryz.prog 75 #[.agg #[.int .i64 k, .string t, .int .i64 m, .int .i64 s], .slice p 0 c] w (NRet w [⟨k, t, m, 0⟩]) := by
  go_enter Tryz.func75, Tryz.ntmps75
  go_wp2
  refine wp_loop_rounds 1 ?_
  rw [rounds_succ]
  go_wp2
  go_ret
  refine ⟨_, rfl, ?_, below2 w _ _⟩
  have := node_new (w.alloc (.cells #[.int .i64 k, .string t, .int .i64 m, .int .i64 s] 58)) ⟨k, t, m, 0⟩
  simpa using this
theorem owns_node (w : World) (base : Nat) (x : Nd) (h : base ≤ w.heap.size) : (w.alloc (.cells #[.int .i64 x.kind, .string x.text, .int .i64 x.num, .int .i64 x.kids] 58)).ownsRow base 58 4 (.slice (some ⟨w.heap.size, 0, none⟩) 1 1) 1 (nodeCells [x]) := by
  refine ⟨rfl, .inr ⟨w.heap.size, 1, #[.int .i64 x.kind, .string x.text, .int .i64 x.num, .int .i64 x.kids], rfl, h, alloc_at _ _, Nat.le_refl _, by unfold maxLen; omega, rfl, rfl⟩⟩
set_option maxHeartbeats 2000000 in
theorem ref_make_some (k m s : Int) (t : ByteArray) (b off n c : Nat) (Ls : List (List Nd)) (w : World) (hb : b < w.heap.size) (hL : Hid (Ls.length = n)) (hn0 : 0 < n) (hn : n ≤ 4000) (hf : Hid (Ls.flatten.length ≤ 900000)) (hv : Hid (Lists w b off Ls)) :
    Calls Tryz.prog 75 #[.agg #[.int .i64 k, .string t, .int .i64 m, .int .i64 s], .slice (some ⟨b, off, none⟩) n c] w (NRet w (makeN ⟨k, t, m, 0⟩ Ls)) := by
  obtain ⟨i0, hi, hz0, hz1, hz2⟩ := infoNode
  have HI := Lib.hid (And.intro hi (And.intro hz0 (And.intro hz1 hz2)))
  clear hi hz0 hz1 hz2
  go_enter Tryz.func75, Tryz.ntmps75
  go_wp2
  go_loopw [5, 6] (fun o q wr => ∃ (j A g cap : Nat), j ≤ n ∧ q = .int .i64 j ∧ o = .slice (some ⟨g, 0, none⟩) (A + 1) cap ∧ A = sumTo Ls j ∧ wr.ownsRow w.heap.size 58 4 (.slice (some ⟨g, 0, none⟩) (A + 1) cap) (A + 1) (nodeCells (⟨k, t, m, n⟩ :: (Ls.take j).flatten)) ∧ Below w.heap.size w wr) (fun _ q _ => n - (intOf q).toNat)
  case atStart =>
    refine ⟨0, 0, w.heap.size + 1, 1, Nat.zero_le _, rfl, rfl, rfl, ?_, below2 w _ _⟩
    have := owns_node (w.alloc (.cells #[.int .i64 k, .string t, .int .i64 m, .int .i64 s] 58)) w.heap.size ⟨k, t, m, n⟩ (by simp)
    simpa using this
  case round =>
    obtain ⟨j, A, g, cap, hj, rfl, rfl, hA, hown, hbel⟩ := hrel
    have HO := Lib.hid hown
    have HA := Lib.hid hA
    have hsz := hbel.size
    have hAb : A ≤ 900000 := by have := sumTo_le Ls j; have := hf.out; omega
    clear hown hA
    by_cases hlt : j < n
    · obtain ⟨p, x, cp, hcell, hx, hnode⟩ := (hv.out.below hbel hb).one j (by rw [hL.out]; exact hlt)
      have hs1 := sumTo_succ Ls j (by rw [hL.out]; exact hlt)
      have hs2 := sumTo_le Ls (j + 1)
      have hxb : A + x ≤ 900000 := by have := hf.out; have := HA.out; omega
      have hsrc : x ≠ 0 → ∃ ad, p = some ad ∧ ∀ i v, (nodeCells (Ls.getD j []))[i]? = some v → wr.cell? (ad.add i) = some v := by
        intro h0
        obtain ⟨_, p2, c2, h1, _, _, h4⟩ := hnode
        simp only [Value.slice.injEq] at h1
        obtain ⟨rfl, h2, _⟩ := h1
        obtain ⟨bb, oo, rfl, _, hc⟩ := h4 (by omega)
        exact ⟨_, rfl, hc.at⟩
      have HS : Hid (A + x = sumTo Ls (j + 1)) := Lib.hid (by have := HA.out; omega)
      obtain ⟨Y, hY⟩ : ∃ Y, Y = nodeCells (Ls.getD j []) := ⟨_, rfl⟩
      have hYl : Y.length = x * 4 := by rw [hY, length_nodeCells, hx]
      rw [← hY] at hsrc
      have HY := Lib.hid hY
      have HYl := Lib.hid hYl
      have HSrc := Lib.hid hsrc
      have H1 : Hid (∀ u ∈ Y, u.oneCell' = true) := Lib.hid (by rw [hY]; exact nodeCells_one _)
      clear hs1 hs2 hx hnode hY hYl hsrc
      go_wp2_with ((at_builtin; refine wpList_append_view _ rfl _ _ 22 rfl w.heap.size 58 i0 zeroNode 4 40 Tryz.underlying22 HI.out.1 HI.out.2.1 HI.out.2.2.1 HI.out.2.2.2 rfl (by decide) g (A + 1) cap _ rfl HO.out p x cp Y rfl HYl.out HSrc.out H1.out (by unfold maxLen; omega) (by omega) hsz ?_; intro v' w3 hown' hgrow hv3; obtain ⟨g3, c3, hv3⟩ := hv3; subst hv3; have HO3 := Lib.hid hown'; have hbel3 : Below w.heap.size w w3 := hbel.grown hgrow hsz (fun q hq => by have := HO.out.lt q hq; exact this.1); clear hown' hgrow))
      go_roundw
      case rel => exact ⟨j + 1, A + x, g3, c3, by omega, by go_num, by rw [show A + 1 + x = A + x + 1 by omega], HS.out, by
        have h9 := HO3.out
        rw [HY.out, ← nodeCells_append, List.cons_append, ← take_flat Ls j (by rw [hL.out]; exact hlt), show A + 1 + x = A + x + 1 by omega] at h9
        exact h9, hbel3⟩
      case measure => simp [intOf]; omega
    · obtain rfl : j = n := by omega
      go_wp2
      go_ret
      refine ⟨_, rfl, ?_, hbel⟩
      have h9 := SliceAt.of_owns HO.out
      have hA := HA.out
      rw [← hL.out, sumTo_all] at hA
      unfold makeN NodesAt
      rw [hL.out, List.length_cons, ← hA]
      rw [List.take_of_length_le (by rw [hL.out]; exact Nat.le_refl _)] at h9
      exact h9
theorem ref_make (x : Nd) (v : Value) (Ls : List (List Nd)) (w : World) (h : ListsAt w v Ls) (hs : sumLen Ls) : Calls Tryz.prog 75 #[x.val, v] w (NRet w (makeN x Ls)) := by
  obtain ⟨k, t, m, s⟩ := x
  obtain ⟨vs, ⟨hl, p, c, rfl, _, _, h4⟩, hv⟩ := h
  by_cases h0 : Ls.length = 0
  · obtain rfl : Ls = [] := List.eq_nil_of_length_eq_zero h0
    exact ref_make_zero k m s t p c w
  · obtain ⟨b, off, rfl, hb, hc⟩ := h4 h0
    refine ref_make_some k m s t b off Ls.length c Ls w hb rfl (by omega) hs.1 hs.2 ?_
    intro i hi
    refine ⟨vs.getD i default, hc i _ ?_, hv i hi⟩
    rw [List.getD_eq_getElem?_getD, List.getElem?_eq_getElem (by omega)]
    rfl
end Go.Proofs.YtncifeeinogcnaaGreatDoor
