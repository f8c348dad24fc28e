/- Texts of this seat, one behind the other: DaK, Nex. -/
import Derived.Test.YtncifeeinogcnaaDoorKn19
import Derived.Test.YtncifeeinogcnaaDoorKn04
import Derived.Test.YtncifeeinogcnaaDoorKn16
/- Check. -/
set_option maxRecDepth 100000
namespace Go.Proofs.YtncifeeinogcnaaDoor
open Go.Shelf Go.RowKit Go.Lib Go.Sort Go.Maps Go.Proofs.TreeMath Go.Proofs.LexMath

/-- What Check answers. -/
def checkD (ds : List Dt) : Int := if (decide (60 < ds.length) || ds.any fun d => !rightD d) = true then 100 else if repD ds = true then 101 else if lackD ds = true then 102 else 0
/-- Texts that are not too long. -/
def TinyC (c : Ct) : Prop := c.name.size ≤ 1000000 ∧ c.args.length ≤ 1000000 ∧ ∀ t ∈ c.args, t.length ≤ 1000000 ∧ ∀ n ∈ t, n.text.size ≤ 1000000
def TinyD (d : Dt) : Prop := d.name.size ≤ 1000000 ∧ d.cons.length ≤ 1000000 ∧ ∀ c ∈ d.cons, TinyC c
theorem TinyD.small {d : Dt} (h : TinyD d) : SmallD d := ⟨by have := h.1; omega, h.2.1, fun c hc => ⟨by have := (h.2.2 c hc).1; omega, (h.2.2 c hc).2.1, fun t ht => ⟨((h.2.2 c hc).2.2 t ht).1, fun n hn => by have := ((h.2.2 c hc).2.2 t ht).2 n hn; omega⟩⟩⟩
theorem rightD_le {d : Dt} (h : rightD d = true) : 0 ≤ d.params ∧ d.params ≤ 8 ∧ 1 ≤ d.cons.length ∧ d.cons.length ≤ 60 := by
  unfold rightD at h
  simp only [Bool.and_eq_true, decide_eq_true_eq] at h
  exact ⟨h.1.1.1.1.2, h.1.1.1.2, h.1.1.2, h.1.2⟩
def CdP (w : World) (k : Int) (e : Ending) (w' : World) : Prop := e = .returned (.int .i64 k) ∧ Below w.heap.size w w'
theorem dcheck_any (lv : Value) (ds : List Dt) (w : World) (h : DtsAt w lv ds) (hn : ds.length ≤ 1000000) (hs : ∀ d ∈ ds, TinyD d) : Calls Tryd.prog 20 #[lv] w (CdP w (checkD ds)) := by
  obtain ⟨lq, lc, rfl⟩ := h.form
  obtain ⟨n, hnn⟩ : ∃ n, n = ds.length := ⟨_, rfl⟩
  have C1 : Hid (Calls Tryd.prog 36 #[.slice lq n lc, .func (.func 34) #[] #[]] w (BRw (ds.any fun d => !rightD d) w)) := Lib.hid (by
    have := containsD_any 34 #[] (enters 34 _ Tryd.func34 (by kernel_rfl) (by kernel_rfl)) (.slice lq ds.length lc) ds ds.length (fun j => !rightD (ds.getD j default)) w h.1 rfl (Lib.hid fun j hj W hW => check1_any (ds.getD j default) W ((h.2 _ (getD_mem ds j hj)).below hW) (hs _ (getD_mem ds j hj)).small)
    rw [any_range ds (fun d => !rightD d)] at this
    rw [hnn]
    exact this)
  have E : ∀ y, checkD ds = y → Hid (∀ w', Below w.heap.size w w' → CdP w (checkD ds) (.returned (.int .i64 y)) w') := fun y e => Lib.hid fun w' b => ⟨by rw [e], b⟩
  have C2 : Hid (n ≤ 60 → (ds.any fun d => !rightD d) = false → ∀ W, Below w.heap.size w W → Calls Tryd.prog 37 #[.slice lq n lc] W (BRw (repD ds) W) ∧ Calls Tryd.prog 38 #[.slice lq n lc] W (BRw (lackD ds) W)) := Lib.hid fun h1 h2 W hW => by
    have R : ∀ d ∈ ds, rightD d = true := fun d hd => by
      rw [List.any_eq_false] at h2
      simpa using h2 d hd
    rw [hnn]
    exact ⟨reps_any _ ds W (h.below hW) (by omega) (fun d hd => (rightD_le (R d hd)).2.2.2) (fun d hd => ⟨(hs d hd).1, fun c hc => ((hs d hd).2.2 c hc).1⟩), lacks_any _ ds W (h.below hW) (by omega) (fun d hd => (rightD_le (R d hd)).2.2.2) (fun d hd => ⟨(hs d hd).1, by have := (rightD_le (R d hd)).1; omega, by have := (rightD_le (R d hd)).2.1; omega, fun c hc t ht n hn => (((hs d hd).2.2 c hc).2.2 t ht).2 n hn⟩)⟩
  have R : checkD ds = if (decide (60 < n) || ds.any fun d => !rightD d) = true then 100 else if repD ds = true then 101 else if lackD ds = true then 102 else 0 := by rw [hnn]; rfl
  rw [← hnn] at hn ⊢
  generalize CdP w (checkD ds) = Z at E ⊢
  generalize (ds.any fun d => !rightD d) = y1 at *
  generalize repD ds = y2 at *
  generalize lackD ds = y3 at *
  clear h hs hnn
  by_cases t1 : 60 < n
  · have t0 : decide ((60 : Int) < (n : Int)) = true := decide_eq_true (by omega)
    have E := E 100 (by rw [R]; simp [t1])
    clear C1 C2 R
    go_enter Tryd.func20, Tryd.ntmps20
    go_wp2
    first | go_ret | skip
    exact E.out _ (Below.refl _ _)
  · have t0 : decide ((60 : Int) < (n : Int)) = false := decide_eq_false (by omega)
    cases y1 with
    | true =>
      have E := E 100 (by rw [R]; simp)
      clear C2 R t1
      go_enter Tryd.func20, Tryd.ntmps20
      go_wp2_with fail
      refine C1.out.mono ?_
      rintro e w1 ⟨rfl, b1⟩
      have F := Lib.hid (E.out _ b1)
      clear b1 C1
      go_wp2
      first | go_ret | skip
      exact F.out
    | false =>
      have C3 := Lib.hid (C2.out (by omega) rfl)
      cases y2 with
      | true =>
        have E := E 101 (by rw [R]; simp [t1])
        clear C2 R t1
        go_enter Tryd.func20, Tryd.ntmps20
        go_wp2_with fail
        refine C1.out.mono ?_
        rintro e w1 ⟨rfl, b1⟩
        have B1 := Lib.hid b1
        clear b1 C1
        go_wp2_with fail
        refine (C3.out w1 B1.out).1.mono ?_
        rintro e w2 ⟨rfl, b2⟩
        have F := Lib.hid (E.out _ (B1.out.trans (b2.mono B1.out.size)))
        clear b2 C3
        go_wp2
        first | go_ret | skip
        exact F.out
      | false =>
        cases y3 with
        | true =>
          have E := E 102 (by rw [R]; simp [t1])
          clear C2 R t1
          go_enter Tryd.func20, Tryd.ntmps20
          go_wp2_with fail
          refine C1.out.mono ?_
          rintro e w1 ⟨rfl, b1⟩
          have B1 := Lib.hid b1
          clear b1 C1
          go_wp2_with fail
          refine (C3.out w1 B1.out).1.mono ?_
          rintro e w2 ⟨rfl, b2⟩
          have B2 := Lib.hid (B1.out.trans (b2.mono B1.out.size))
          clear b2
          go_wp2_with fail
          refine (C3.out w2 B2.out).2.mono ?_
          rintro e w3 ⟨rfl, b3⟩
          have F := Lib.hid (E.out _ (B2.out.trans (b3.mono B2.out.size)))
          clear b3 C3
          go_wp2
          first | go_ret | skip
          exact F.out
        | false =>
          have E := E 0 (by rw [R]; simp [t1])
          clear C2 R t1
          go_enter Tryd.func20, Tryd.ntmps20
          go_wp2_with fail
          refine C1.out.mono ?_
          rintro e w1 ⟨rfl, b1⟩
          have B1 := Lib.hid b1
          clear b1 C1
          go_wp2_with fail
          refine (C3.out w1 B1.out).1.mono ?_
          rintro e w2 ⟨rfl, b2⟩
          have B2 := Lib.hid (B1.out.trans (b2.mono B1.out.size))
          clear b2
          go_wp2_with fail
          refine (C3.out w2 B2.out).2.mono ?_
          rintro e w3 ⟨rfl, b3⟩
          have F := Lib.hid (E.out _ (B2.out.trans (b3.mono B2.out.size)))
          clear b3 C3
          go_wp2
          first | go_ret | skip
          exact F.out
end Go.Proofs.YtncifeeinogcnaaDoor
/- A new list of nodes is one's own. -/
set_option maxRecDepth 100000
namespace Go.Proofs.YtncifeeinogcnaaDoor
open Go.RowKit Go.Proofs.TreeMath
def NOwn (W : World) (ns : List Nd) (e : Ending) (w' : World) : Prop := ∃ v, e = .returned v ∧ w'.ownsRow W.heap.size 42 4 v ns.length (nodeCells ns) ∧ Below W.heap.size W w'
set_option maxHeartbeats 2000000 in
theorem join_own (b off c : Nat) (Ls : List (List Nd)) (w : World) (hb : b < w.heap.size) (hL : Hid (Lists w b off Ls)) (hn : Ls.flatten.length ≤ 1000000) (hc : Ls.length ≤ 5000) :
    Calls Tryd.prog 62 #[.slice (some ⟨b, off, none⟩) Ls.length c] w (NOwn w Ls.flatten) := by
  obtain ⟨i0, hi, hz0, hz1, hz2⟩ := infoNode
  have HI := Lib.hid (And.intro hi (And.intro hz0 (And.intro hz1 hz2)))
  clear hi hz0 hz1 hz2
  obtain ⟨N, hN⟩ : ∃ N, N = Ls.flatten.length := ⟨_, rfl⟩
  have hn' : N ≤ 1000000 := by omega
  have HN := Lib.hid hN
  clear hN hn
  go_enter Tryd.func62, Tryd.ntmps62
  go_wp2
  go_loop [3, 12] (fun s i => ∃ k S : Nat, k ≤ Ls.length ∧ i = .int .i64 k ∧ s = .int .i64 S ∧ S = sumTo Ls k) (fun _ i => Ls.length - (intOf i).toNat)
  case atStart => exact ⟨0, 0, Nat.zero_le _, rfl, rfl, rfl⟩
  case round =>
    obtain ⟨k, S, hk, rfl, rfl, hS⟩ := hrel
    by_cases hlt : k < Ls.length
    · obtain ⟨p, n, cp, hv, hvl, _⟩ := hL.out.one k hlt
      have hs1 := sumTo_succ Ls k hlt
      have hs2 : S + n ≤ N := by have := sumTo_le Ls (k + 1); rw [HN.out]; omega
      have HS : Hid (S + n = sumTo Ls (k + 1)) := Lib.hid (by omega)
      clear hs1 hS hvl
      go_wp2
      go_round
      case rel => exact ⟨k + 1, S + n, by omega, by go_num, by go_num, HS.out⟩
      case measure => simp [intOf]; omega
    · obtain rfl : S = N := by rw [hS, HN.out, show k = Ls.length by omega, sumTo_all]
      clear hS
      go_wp2_with ((at_make; refine wpList_make_full _ rfl _ _ 36 rfl w.heap.size 42 i0 zeroNode 4 Tryd.underlying36 HI.out.1 HI.out.2.1 HI.out.2.2.1 .i64 .i64 _ _ S rfl rfl rfl rfl (by rw [HI.out.2.2.2]; omega) (by unfold maxLen; omega) (Nat.le_refl _) ?_; intro w1 hown hgrow; have HO := Lib.hid hown; have HG := Lib.hid hgrow; clear hown hgrow))
      obtain ⟨hol, hor⟩ := HO.out
      obtain ⟨cur, hcur, hcl⟩ : ∃ cur : List Value, w1.heap[w.heap.size]? = some (.cells cur.toArray 42 (0, 0)) ∧ cur.length = S * 4 := by
        rcases hor with ⟨h, _⟩ | ⟨g, cap, cur, h1, _, h3, _, _, h6, _⟩
        · simp at h
        · simp at h1
          obtain ⟨rfl, rfl⟩ := h1
          exact ⟨cur.toList, by simpa using h3, by simpa using h6⟩
      have hB1 : Below w.heap.size w w1 := (Below.refl _ _).grown HG.out (Nat.le_refl _) (fun k hk => by simp at hk)
      have HC := Lib.hid hcur
      have HL2 := Lib.hid hcl
      clear hol hor hcur hcl
      go_loopw [7, 25] (fun s i wr => ∃ k A : Nat, ∃ rest : List Value, k ≤ Ls.length ∧ i = .int .i64 k ∧ s = .int .i64 A ∧ A = sumTo Ls k ∧ Below w.heap.size w wr ∧ rest.length = S * 4 - A * 4 ∧ wr.heap[w.heap.size]? = some (.cells (nodeCells (Ls.take k).flatten ++ rest).toArray 42 (0, 0))) (fun _ i _ => Ls.length - (intOf i).toNat)
      case atStart => exact ⟨0, 0, cur, Nat.zero_le _, rfl, rfl, rfl, hB1, by rw [HL2.out]; omega, by simpa [nodeCells] using HC.out⟩
      case round =>
        obtain ⟨k, A, rest, hk, rfl, rfl, hA, hbel, hrest, hblk⟩ := hrel
        have HB := Lib.hid hblk
        have HR := Lib.hid hrest
        clear hblk hrest
        by_cases hlt : k < Ls.length
        · obtain ⟨p, n, cp, hv, hvl, hnode⟩ := (hL.out.below hbel hb).one k hlt
          have hs1 := sumTo_succ Ls k hlt
          have hs2 : A + n ≤ S := by have := sumTo_le Ls (k + 1); rw [HN.out]; omega
          have HS : Hid (A + n = sumTo Ls (k + 1)) := Lib.hid (by omega)
          have HA := Lib.hid hA
          have HV := Lib.hid hvl
          have HNo := Lib.hid hnode
          obtain ⟨X, hX⟩ : ∃ X, X = nodeCells (Ls.take k).flatten := ⟨_, rfl⟩
          rw [← hX] at HB
          have hXl : X.length = A * 4 := by rw [hX, length_nodeCells, hA]; rfl
          have HX := Lib.hid hX
          have HXl := Lib.hid hXl
          obtain ⟨Y, hY⟩ : ∃ Y, Y = nodeCells (Ls.getD k []) := ⟨_, rfl⟩
          have hYl : Y.length = n * 4 := by rw [hY, length_nodeCells, hvl]
          have HY := Lib.hid hY
          have HYl := Lib.hid hYl
          have hsrc : 0 < n → ∃ ad, p = some ad ∧ ∀ j v, Y[j]? = some v → wr.cell? (ad.add j) = some v := by
            intro h0
            obtain ⟨_, p2, c2, h1, _, _, h4⟩ := hnode
            simp only [Value.slice.injEq] at h1
            obtain ⟨rfl, h2, _⟩ := h1
            obtain ⟨bb, oo, rfl, _, hc⟩ := h4 (by omega)
            exact ⟨_, rfl, by rw [hY]; exact hc.at⟩
          have HSrc := Lib.hid hsrc
          clear hs1 hA hvl hnode hX hXl hY hYl hsrc
          have hAS : A = S ∨ A < S := by omega
          rcases hAS with rfl | hAS
          · go_wp2_with (((with_reducible refine wpList_copy_many rfl (.tmp 32) (.tmp 33) 36 36 rfl 42 4 n Tryd.underlying36 sizeNode (some ⟨w.heap.size, 0, none⟩) p 0 0 n cp ?a7 ?a8 ?c1 w.heap.size (A * 4) (X ++ rest) 42 ?HB Y ?c0 ?c2 ?c3 ?c4 w.heap.size w ?c6 ?c7 ?c5); (case a7 => rfl); (case a8 => rfl); (case c1 => omega); (case HB => exact HB.out); (case c0 => exact HYl.out); (case c2 => intro h; omega); (case c3 => rw [HYl.out, List.length_append, HXl.out, HR.out]; omega); (case c4 => rw [HY.out]; exact nodeCells_one _); (case c6 => exact hbel); (case c7 => exact Nat.le_refl _); intro w3 H3 hbel3))
            go_roundw
            case rel => exact ⟨k + 1, A + n, rest.drop Y.length, by omega, by go_num, by go_num, HS.out, hbel3, by rw [List.length_drop, HR.out, HYl.out]; omega, by
              have h3 := H3.out
              rw [splice_row X rest Y (A * 4) HXl.out.symm, HX.out, HY.out, ← nodeCells_append, ← take_flat Ls k hlt] at h3
              rw [HY.out]
              exact h3⟩
            case measure => simp [intOf]; omega
          · go_wp2_with (((with_reducible refine wpList_copy_many rfl (.tmp 32) (.tmp 33) 36 36 rfl 42 4 n Tryd.underlying36 sizeNode (some ⟨w.heap.size, A * 4, none⟩) p (S - A) (S - A) n cp ?za7 ?za8 ?zc1 w.heap.size (A * 4) (X ++ rest) 42 ?zHB Y ?zc0 ?zc2 ?zc3 ?zc4 w.heap.size w ?zc6 ?zc7 ?zc5); (case za7 => rfl); (case za8 => rfl); (case zc1 => omega); (case zHB => exact HB.out); (case zc0 => exact HYl.out); (case zc2 => intro h9; exact ⟨rfl, HSrc.out h9⟩); (case zc3 => rw [HYl.out, List.length_append, HXl.out, HR.out]; omega); (case zc4 => rw [HY.out]; exact nodeCells_one _); (case zc6 => exact hbel); (case zc7 => exact Nat.le_refl _); intro w3 H3 hbel3))
            go_roundw
            case rel => exact ⟨k + 1, A + n, rest.drop Y.length, by omega, by go_num, by go_num, HS.out, hbel3, by rw [List.length_drop, HR.out, HYl.out]; omega, by
              have h3 := H3.out
              rw [splice_row X rest Y (A * 4) HXl.out.symm, HX.out, HY.out, ← nodeCells_append, ← take_flat Ls k hlt] at h3
              rw [HY.out]
              exact h3⟩
            case measure => simp [intOf]; omega
        · obtain rfl : k = Ls.length := by omega
          have hAS : A = S := by rw [hA, sumTo_all, HN.out]
          have hr0 : rest = [] := List.eq_nil_of_length_eq_zero (by rw [HR.out]; omega)
          have HA := Lib.hid hAS
          have H0 := Lib.hid hr0
          clear hA hAS hr0
          go_wp2
          go_ret
          refine ⟨.slice (some ⟨w.heap.size, 0, none⟩) S S, rfl, ?_, hbel⟩
          have hb4 := HB.out
          rw [H0.out, List.append_nil, List.take_length] at hb4
          have hln := length_nodeCells Ls.flatten
          rw [← HN.out] at hln
          rw [← HN.out]
          exact ⟨hln, .inr ⟨w.heap.size, S, _, rfl, Nat.le_refl _, hb4, Nat.le_refl _, by unfold maxLen; omega, by simp [hln], by rw [← hln]; simp⟩⟩
set_option maxHeartbeats 1000000 in
theorem make_own (k m s : Int) (t : ByteArray) (p : Option Addr) (c : Nat) (w : World) :
    Calls Tryd.prog 46 #[.agg #[.int .i64 k, .string t, .int .i64 m, .int .i64 s], .slice p 0 c] w (NOwn w [⟨k, t, m, 0⟩]) := by
  rcases p with _ | a <;>
  · go_enter Tryd.func46, Tryd.ntmps46
    go_wp2_with fail
    refine (join_own (w.heap.size + 1 + 1) 0 1 [[⟨k, t, m, 0⟩]] _ (by simp) (by
      have h := lists_one ((w.alloc (.cells #[.int .i64 k, .string t, .int .i64 m, .int .i64 0] 42)).alloc (.cells #[.int .i64 k, .string t, .int .i64 m, .int .i64 0] 42)) (.slice (some ⟨w.heap.size + 1, 0, none⟩) 1 1) 36 [⟨k, t, m, 0⟩] (by
        have := node_new (w.alloc (.cells #[.int .i64 k, .string t, .int .i64 m, .int .i64 0] 42)) ⟨k, t, m, 0⟩
        simpa using this)
      show Lists _ _ _ _
      simpa using h) (by simp) (by simp)).mono ?_
    rintro e w1 ⟨v', rfl, hv, hb1⟩
    have HV := Lib.hid hv
    clear hv
    go_wp2_with fail
    go_ret
    refine ⟨_, rfl, ?_, ((((Below.refl _ _).alloc (Nat.le_refl _) _).alloc (by simp) _).alloc (by simp; omega) _).trans (hb1.mono (by simp; omega))⟩
    have h9 := HV.out
    simp only [List.flatten_cons, List.flatten_nil, List.append_nil] at h9
    exact World.ownsRow.base h9 (by simp; omega)
end Go.Proofs.YtncifeeinogcnaaDoor
