/- Texts of this seat, one behind the other: RefMake. -/
import Derived.Test.YtggjckalmlploaaGreatDoorKn40
import Derived.Test.YtggjckalmlploaaGreatDoorKn03
import Derived.Deep.AppendSrc
/- The document's own answers: Sub, Make. -/
namespace Go
theorem wpList_append_view {P : Program} (w : World) {ops : Array Oper} {rest : List Oper} {o : Oper} {a : Act} {Q : Exit → Act → World → Prop} (hgd : o.guard = none) (s x : Operand) (t : TypeId)
    (ho : o.op = .call { callee := .builtin .append, args := #[s, x], argTypes := #[t, t] })
    (base : Nat) (e : TypeId) (i : TypeInfo) (z : Value) (size bytes : Nat) (ht : P.underlying t = some (.slice e)) (hi : P.info? e = some i) (hz : i.zero = some z)
    (hsize : i.size = size) (hby : i.bytes = bytes) (hzs : z.cells.size = size) (hsz : 0 < size)
    (g n cap : Nat) (xs : List Value) (hs : a.eval s = .slice (some ⟨g, 0, none⟩) n cap) (hown : w.ownsRow base e size (.slice (some ⟨g, 0, none⟩) n cap) n xs)
    (q : Option Addr) (m c : Nat) (news : List Value) (hx : a.eval x = .slice q m c) (hl : news.length = m * size) (hq : m ≠ 0 → ∃ ad, q = some ad ∧ ∀ j u, news[j]? = some u → w.cell? (ad.add j) = some u) (h1 : ∀ u ∈ news, u.oneCell' = true)
    (h63 : n + m ≤ maxLen) (hbytes : (n + m) * bytes ≤ 140737488355328) (hbase : base ≤ w.heap.size)
    (h : ∀ v' w', w'.ownsRow base e size v' (n + m) (xs ++ news) → w.grownBy w' (some g) → (∃ g' cap', v' = .slice (some ⟨g', 0, none⟩) (n + m) cap') → wpList P ops Q rest (a.put o.dst v') w') : wpList P ops Q (o :: rest) a w := by
  by_cases h0 : m = 0
  · subst h0
    obtain rfl : news = [] := List.eq_nil_of_length_eq_zero (by rw [hl]; simp)
    have hsrc : Src P i.size t (.slice q 0 c) 0 [] w := by
      cases q with
      | none => exact Src.ofNil w ht c
      | some ad => exact Src.ofSlice w ht ad 0 c [] (by simp) (by simp) (by simp)
    have hcap : n + 0 ≤ cap := by
      rcases hown.2 with ⟨hh, _⟩ | ⟨g2, cap2, cur, hv, _, _, hn, _⟩
      · simp at hh
      · simp only [Value.slice.injEq] at hv
        omega
    have hr := run_append_room_src (P := P) w t t o.type e i ht hi g 0 n cap (.slice q 0 c) 0 [] hsrc hcap (by simp) (by simp)
    refine wpList_plain hgd fun K hK => ?_
    have h3 := h (.slice (some ⟨g, 0, none⟩) (n + 0) cap) w (by simpa using hown) ⟨rfl, rfl, rfl, Nat.le_refl _, fun _ _ _ => rfl⟩ ⟨_, _, rfl⟩
    unfold Oper.wp execOp
    simp only [ho, resolve, invoke, builtin, Sem.run_bind, Sem.run_pure, Result.andThen_ok, List.map_toArray, List.map_cons, List.map_nil, hs, hx, hr]
    exact hK _ _ h3
  · obtain ⟨ad, rfl, hnews⟩ := hq h0
    refine wpList_append_own w hgd s x t ho base e i z size bytes ht hi hz hsize hby hzs hsz _ n xs hs hown ad m c news hx hl hnews h1 h63 hbytes hbase fun v' w' h2 h3 h4 => h v' w' h2 h3 ?_
    rcases h2.2 with ⟨hh, h5⟩ | ⟨g', cap', cur, hv, _⟩
    · omega
    · exact ⟨g', cap', hv⟩
end Go
namespace Go.Proofs.YtggjckalmlploaaGreatDoor
open Go.RowKit Go.Proofs.TreeMath
set_option maxHeartbeats 2000000 in
theorem ref_make_zero (k m s : Int) (t : ByteArray) (p : Option Addr) (c : Nat) (w : World) :
    Calls Tryz.prog 12 #[.agg #[.int .i64 k, .string t, .int .i64 m, .int .i64 s], .slice p 0 c] w (NRet w [⟨k, t, m, 0⟩]) := by
  go_enter Tryz.func12, Tryz.ntmps12
  go_wp2
  refine wp_loop_rounds 1 ?_
  rw [rounds_succ]
  go_wp2
  go_ret
  refine ⟨_, rfl, ?_, below2 w _ _⟩
  have := node_new (w.alloc (.cells #[.int .i64 k, .string t, .int .i64 m, .int .i64 s] 37)) ⟨k, t, m, 0⟩
  simpa using this
theorem owns_node (w : World) (base : Nat) (x : Nd) (h : base ≤ w.heap.size) : (w.alloc (.cells #[.int .i64 x.kind, .string x.text, .int .i64 x.num, .int .i64 x.kids] 37)).ownsRow base 37 4 (.slice (some ⟨w.heap.size, 0, none⟩) 1 1) 1 (nodeCells [x]) := by
  refine ⟨rfl, .inr ⟨w.heap.size, 1, #[.int .i64 x.kind, .string x.text, .int .i64 x.num, .int .i64 x.kids], rfl, h, alloc_at _ _, Nat.le_refl _, by unfold maxLen; omega, rfl, rfl⟩⟩
set_option maxHeartbeats 2000000 in
theorem ref_make_some (k m s : Int) (t : ByteArray) (b off n c : Nat) (Ls : List (List Nd)) (w : World) (hb : b < w.heap.size) (hL : Hid (Ls.length = n)) (hn0 : 0 < n) (hn : n ≤ 4000) (hf : Hid (Ls.flatten.length ≤ 900000)) (hv : Hid (Lists w b off Ls)) :
    Calls Tryz.prog 12 #[.agg #[.int .i64 k, .string t, .int .i64 m, .int .i64 s], .slice (some ⟨b, off, none⟩) n c] w (NRet w (makeN ⟨k, t, m, 0⟩ Ls)) := by
  obtain ⟨i0, hi, hz0, hz1, hz2⟩ := infoNode
  have HI := Lib.hid (And.intro hi (And.intro hz0 (And.intro hz1 hz2)))
  clear hi hz0 hz1 hz2
  go_enter Tryz.func12, Tryz.ntmps12
  go_wp2
  go_loopw [5, 6] (fun o q wr => ∃ (j A g cap : Nat), j ≤ n ∧ q = .int .i64 j ∧ o = .slice (some ⟨g, 0, none⟩) (A + 1) cap ∧ A = sumTo Ls j ∧ wr.ownsRow w.heap.size 37 4 (.slice (some ⟨g, 0, none⟩) (A + 1) cap) (A + 1) (nodeCells (⟨k, t, m, n⟩ :: (Ls.take j).flatten)) ∧ Below w.heap.size w wr) (fun _ q _ => n - (intOf q).toNat)
  case atStart =>
    refine ⟨0, 0, w.heap.size + 1, 1, Nat.zero_le _, rfl, rfl, rfl, ?_, below2 w _ _⟩
    have := owns_node (w.alloc (.cells #[.int .i64 k, .string t, .int .i64 m, .int .i64 s] 37)) w.heap.size ⟨k, t, m, n⟩ (by simp)
    simpa using this
  case round =>
    obtain ⟨j, A, g, cap, hj, rfl, rfl, hA, hown, hbel⟩ := hrel
    have HO := Lib.hid hown
    have HA := Lib.hid hA
    have hsz := hbel.size
    have hAb : A ≤ 900000 := by have := sumTo_le Ls j; have := hf.out; omega
    clear hown hA
    by_cases hlt : j < n
    · obtain ⟨p, x, cp, hcell, hx, hnode⟩ := (hv.out.below hbel hb).one j (by rw [hL.out]; exact hlt)
      have hs1 := sumTo_succ Ls j (by rw [hL.out]; exact hlt)
      have hs2 := sumTo_le Ls (j + 1)
      have hxb : A + x ≤ 900000 := by have := hf.out; have := HA.out; omega
      have hsrc : x ≠ 0 → ∃ ad, p = some ad ∧ ∀ i v, (nodeCells (Ls.getD j []))[i]? = some v → wr.cell? (ad.add i) = some v := by
        intro h0
        obtain ⟨_, p2, c2, h1, _, _, h4⟩ := hnode
        simp only [Value.slice.injEq] at h1
        obtain ⟨rfl, h2, _⟩ := h1
        obtain ⟨bb, oo, rfl, _, hc⟩ := h4 (by omega)
        exact ⟨_, rfl, hc.at⟩
      have HS : Hid (A + x = sumTo Ls (j + 1)) := Lib.hid (by have := HA.out; omega)
      obtain ⟨Y, hY⟩ : ∃ Y, Y = nodeCells (Ls.getD j []) := ⟨_, rfl⟩
      have hYl : Y.length = x * 4 := by rw [hY, length_nodeCells, hx]
      rw [← hY] at hsrc
      have HY := Lib.hid hY
      have HYl := Lib.hid hYl
      have HSrc := Lib.hid hsrc
      have H1 : Hid (∀ u ∈ Y, u.oneCell' = true) := Lib.hid (by rw [hY]; exact nodeCells_one _)
      clear hs1 hs2 hx hnode hY hYl hsrc
      go_wp2_with ((at_builtin; refine wpList_append_view _ rfl _ _ 25 rfl w.heap.size 37 i0 zeroNode 4 40 Tryz.underlying25 HI.out.1 HI.out.2.1 HI.out.2.2.1 HI.out.2.2.2 rfl (by decide) g (A + 1) cap _ rfl HO.out p x cp Y rfl HYl.out HSrc.out H1.out (by unfold maxLen; omega) (by omega) hsz ?_; intro v' w3 hown' hgrow hv3; obtain ⟨g3, c3, hv3⟩ := hv3; subst hv3; have HO3 := Lib.hid hown'; have hbel3 : Below w.heap.size w w3 := hbel.grown hgrow hsz (fun q hq => by have := HO.out.lt q hq; exact this.1); clear hown' hgrow))
      go_roundw
      case rel => exact ⟨j + 1, A + x, g3, c3, by omega, by go_num, by rw [show A + 1 + x = A + x + 1 by omega], HS.out, by
        have h9 := HO3.out
        rw [HY.out, ← nodeCells_append, List.cons_append, ← take_flat Ls j (by rw [hL.out]; exact hlt), show A + 1 + x = A + x + 1 by omega] at h9
        exact h9, hbel3⟩
      case measure => simp [intOf]; omega
    · obtain rfl : j = n := by omega
      go_wp2
      go_ret
      refine ⟨_, rfl, ?_, hbel⟩
      have h9 := SliceAt.of_owns HO.out
      have hA := HA.out
      rw [← hL.out, sumTo_all] at hA
      unfold makeN NodesAt
      rw [hL.out, List.length_cons, ← hA]
      rw [List.take_of_length_le (by rw [hL.out]; exact Nat.le_refl _)] at h9
      exact h9
theorem ref_make (x : Nd) (v : Value) (Ls : List (List Nd)) (w : World) (h : ListsAt w v Ls) (hs : sumLen Ls) : Calls Tryz.prog 12 #[x.val, v] w (NRet w (makeN x Ls)) := by
  obtain ⟨k, t, m, s⟩ := x
  obtain ⟨vs, ⟨hl, p, c, rfl, _, _, h4⟩, hv⟩ := h
  by_cases h0 : Ls.length = 0
  · obtain rfl : Ls = [] := List.eq_nil_of_length_eq_zero h0
    exact ref_make_zero k m s t p c w
  · obtain ⟨b, off, rfl, hb, hc⟩ := h4 h0
    refine ref_make_some k m s t b off Ls.length c Ls w hb rfl (by omega) hs.1 hs.2 ?_
    intro i hi
    refine ⟨vs.getD i default, hc i _ ?_, hv i hi⟩
    rw [List.getD_eq_getElem?_getD, List.getElem?_eq_getElem (by omega)]
    rfl
end Go.Proofs.YtggjckalmlploaaGreatDoor
