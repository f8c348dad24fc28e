/- Texts of this seat, one behind the other: VaB. -/
import Derived.Test.YtncifeeinogcnaaDoorKn16
/- The contract of Vars: the walk. -/
set_option maxRecDepth 100000
namespace Go.Proofs.YtncifeeinogcnaaDoor
open Go.RowKit Go.Lib Go.Maps Go.Proofs.TreeMath

set_option maxHeartbeats 4000000 in
theorem vars_any (tv : Value) (t : List Nd) (w : World) (hns : NodesAt w tv t) (hl : t.length ≤ 1000000) (sm : SmallN t) : Calls Tryd.prog 19 #[tv] w (VaP t w) := by
  have CK := Lib.hid (check_any tv t w hns hl sm)
  unfold CkP at CK
  cases hty : tyB t with
  | false =>
    have E : Hid (∀ w', Below w.heap.size w w' → VaP t w (.returned (.slice none 0 0)) w') := Lib.hid fun w' b => ⟨_, rfl, by rw [hty]; exact World.ownsRow_nil _ _ _ _, b⟩
    rw [hty] at CK
    clear hns hl sm hty
    go_enter Tryd.func19, Tryd.ntmps19
    go_wp2_with fail
    refine CK.out.mono ?_
    rintro e w1 ⟨rfl, b1⟩
    have B1 := Lib.hid b1
    clear b1 CK
    go_wp2
    go_ret
    exact E.out _ B1.out
  | true =>
    rw [hty] at CK
    have hty2 := hty
    unfold tyB at hty2
    simp only [Bool.and_eq_true, decide_eq_true_eq] at hty2
    have l4 : t.length ≤ 4000 := hty2.1.1
    have RT := Lib.hid hty2.2
    obtain ⟨q, c, rfl⟩ : ∃ q c, tv = .slice q t.length c := by obtain ⟨_, q, c, e, _⟩ := hns; exact ⟨q, c, e⟩
    have START : Hid (∀ w1, Below w.heap.size w w1 → VI w w1.heap.size (.map []) [] (.slice none 0 0) 0 (w1.alloc (.map #[] 0))) := Lib.hid fun w1 b1 =>
      ⟨World.ownsMap_made w1 Tryd.prog 2 unitElem, fun v => by rw [has_none]; simp, World.ownsRow_nil _ _ _ _, Nat.le_refl _, b1.trans ((Below.refl w1.heap.size w1).alloc (Nat.le_refl _) _ |>.mono b1.size), b1.size⟩
    have NS := Lib.hid (fun W (b : Below w.heap.size w W) => hns.below b)
    obtain ⟨l, hlen⟩ : ∃ l, l = t.length := ⟨_, rfl⟩
    have HL := Lib.hid hlen
    rw [← hlen] at CK NS l4 ⊢
    have HTY := Lib.hid hty
    have hmm := @run_makeMap Tryd.prog
    clear hns hl sm hty hty2 hlen
    go_enter Tryd.func19, Tryd.ntmps19
    go_wp2_with fail
    refine CK.out.mono ?_
    rintro e w1 ⟨rfl, b1⟩
    have V0 := Lib.hid (START.out w1 b1)
    obtain ⟨mb, hmb⟩ : ∃ mb, mb = w1.heap.size := ⟨_, rfl⟩
    clear b1 CK START
    go_wp2
    rw [← hmb] at V0 ⊢
    go_loopw [3, 15] (fun lv i wr => ∃ j : Nat, j ≤ l ∧ i = .int .i64 j ∧ ∃ D, Hid (VI w mb D (varsN (t.take j)) lv j wr)) (fun _ i _ => l - (intOf i).toNat)
    case atStart => exact ⟨0, Nat.zero_le _, rfl, _, V0⟩
    case round =>
      obtain ⟨j, hj, rfl, D, hV⟩ := hrel
      clear V0 hmb
      by_cases hlt : j < l
      · obtain ⟨n, hn⟩ : ∃ n, n = t.getD j default := ⟨_, rfl⟩
        obtain ⟨g1, q', c', e', g2, g3, g4⟩ := NS.out wr hV.out.be
        obtain ⟨b, o, rfl, gb, gc⟩ := g4 (by rw [← HL.out]; omega)
        simp only [Value.slice.injEq] at e'
        obtain ⟨rfl, hlx, rfl⟩ := e'
        obtain ⟨a0, a1, a2, a3⟩ := CellsIn.node gc j (by rw [← HL.out]; exact hlt)
        rw [← hn] at a0 a1 a2 a3
        have hr : rightN n = true := List.all_eq_true.1 RT.out n (by
          rw [hn, List.getD_eq_getElem?_getD, List.getElem?_eq_getElem (by rw [← HL.out]; exact hlt)]
          exact List.getElem_mem _)
        obtain ⟨⟨r0, r1⟩, _, _⟩ := right_num hr
        have hz1 := zero66
        obtain ⟨u, ps, hlk, hu⟩ := (hV.out.map.alloc (.cells #[.int .i64 n.kind, .string n.text, .int .i64 n.num, .int .i64 n.kids] 42)).look_ok law2 Tryd.underlying68 (zero66 _) (zd := .agg []) (zp := []) unitElem_mk (key2 n.num (by omega) (by omega))
        obtain ⟨rfl, _⟩ := unitElem_inv hu
        have STEP := Lib.hid (varsN_take t j (by rw [← HL.out]; exact hlt))
        rw [← hn] at STEP
        have HAS := hV.out.has n.num
        obtain ⟨hb, hhb⟩ : ∃ hb, hb = has D (kI n.num) := ⟨_, rfl⟩
        rw [← hhb] at hlk HAS
        have BA := Lib.hid (below_two wr (.cells #[.int .i64 n.kind, .string n.text, .int .i64 n.num, .int .i64 n.kids] 42) (.cells #[] 69))
        by_cases hp : n.kind = 31 ∧ hb = false
        · obtain ⟨hk, rfl⟩ := hp
          have t1 : (n.kind == 31) = true := by simpa using hk
          have hnew : n.num ∉ varsN (t.take j) := fun hm => absurd (HAS.2 hm) (by decide)
          rw [show vstep (varsN (t.take j)) n = varsN (t.take j) ++ [n.num] by unfold vstep; rw [if_pos ⟨hk, hnew⟩]] at STEP
          obtain ⟨acc, hacc⟩ : ∃ acc, acc = varsN (t.take j) := ⟨_, rfl⟩
          rw [← hacc] at hV STEP
          obtain ⟨w3, hup, hm3, hg3⟩ := ((hV.out.map.alloc (.cells #[.int .i64 n.kind, .string n.text, .int .i64 n.num, .int .i64 n.kids] 42)).alloc (.cells #[] 69)).update law2 Tryd.underlying68 (by unfold maxLen; omega) (key2 n.num (by omega) (by omega)) unitElem_mk
          have hnb2 : ((wr.alloc (.cells #[.int .i64 n.kind, .string n.text, .int .i64 n.num, .int .i64 n.kids] 42)).alloc (.cells #[] 69)).heap[wr.heap.size]? = some (.cells #[.int .i64 n.kind, .string n.text, .int .i64 n.num, .int .i64 n.kids] 42 (0, 0)) := by
            rw [Below.heap_alloc _ _ _ (by simp)]; exact alloc_top wr _
          have hmlt : mb < wr.heap.size := hV.out.map.lt
          have hn3 : w3.heap[wr.heap.size]? = some (.cells #[.int .i64 n.kind, .string n.text, .int .i64 n.num, .int .i64 n.kids] 42 (0, 0)) := (hg3.block wr.heap.size (by simp; omega) (by simp; omega)).trans hnb2
          obtain ⟨nb, hnb⟩ : ∃ nb, nb = wr.heap.size := ⟨_, rfl⟩
          have c2 := cell_of_heap hn3 2
          simp only [List.getElem?_toArray, List.getElem?_cons_zero, List.getElem?_cons_succ] at c2
          obtain ⟨ql, cl, hql⟩ := row_form hV.out.row
          obtain ⟨k, hkl⟩ : ∃ k, k = acc.length := ⟨_, rfl⟩
          rw [← hkl] at hql
          subst hql
          have HKL := Lib.hid hkl
          have hkj : k ≤ j := by have := hV.out.len; omega
          have AL2 : Below w3.heap.size w3 (w3.alloc (.cells #[.int .i64 n.num] 3)) := (Below.refl w3.heap.size w3).alloc (Nat.le_refl _) _
          have ROWA := Lib.hid (show (w3.alloc (.cells #[.int .i64 n.num] 3)).ownsRow w.heap.size 3 1 (.slice ql k cl) k (intCells acc) from by
            have hrow := hV.out.row
            rw [← hkl] at hrow
            refine World.ownsRow.keep hrow fun g hg => ?_
            have hlt2 := (World.ownsRow.there hrow hg).2
            have e3 : w3.heap[g]? = wr.heap[g]? := (hg3.block g (by simp; omega) fun e => by
              simp only [Option.some.injEq] at e
              subst e
              obtain ⟨cur, hc⟩ := row_ty hrow hg
              obtain ⟨es0, cl0, hb0, _⟩ := hV.out.map
              rw [hc] at hb0; simp at hb0).trans (BA.out.block g hlt2)
            exact (AL2.block g (by have := hg3.size; simp at this; omega)).trans e3)
          have ALH := Lib.hid AL2
          have HLC := Lib.hid (lit_cells w3 #[.int .i64 n.num] 3)
          obtain ⟨j0, j1, j2, j3, j4⟩ := info3
          have HJ := Lib.hid (And.intro j1 (And.intro j2 (And.intro j3 j4)))
          have HMX := Lib.hid (show k + 1 ≤ maxLen ∧ (k + 1) * 8 ≤ 140737488355328 ∧ w.heap.size ≤ (w3.alloc (.cells #[.int .i64 n.num] 3)).heap.size from ⟨by unfold maxLen; omega, by omega, by have := hg3.size; have := hV.out.be.size; simp at *; omega⟩)
          have M3 := Lib.hid hm3
          have G3 := Lib.hid hg3
          clear hn hlx g1 g2 g3 g4 gb gc hr r0 r1 hk hnew HAS hhb hm3 hg3 hnb2 hmlt hn3 hkl j1 j2 j3 j4 AL2 hacc hu hnb
          go_wp2_with (at_builtin; refine wpList_append_any _ rfl _ _ 53 rfl w.heap.size 3 j0 (.int .i64 0) 1 8 Tryd.underlying53 HJ.out.1 HJ.out.2.1 HJ.out.2.2.1 HJ.out.2.2.2 rfl (by decide) (.slice ql k cl) k (intCells acc) rfl ROWA.out (some ⟨w3.heap.size, 0, none⟩) 1 1 [.int .i64 n.num] rfl rfl (fun _ => ⟨_, rfl, CellsIn.at HLC.out⟩) (by intro u hu; simp at hu; rw [hu]; rfl) HMX.out.1 HMX.out.2.1 HMX.out.2.2 ?_; intro p' cap' w8 hown hgrow hblk; have RN := Lib.hid hown; have GN := Lib.hid hgrow; clear hown hgrow hblk)
          go_roundw
          case rel =>
            refine ⟨j + 1, by omega, by go_num, D.put (kI n.num) (.agg []), ?_⟩
            rw [STEP.out]
            exact Lib.hid (hV.out.more BA.out G3.out M3.out ALH.out GN.out (by rw [← HKL.out]; exact RN.out))
          case measure => simp [intOf]; omega
        · have HV2 : Hid (VI w mb D (varsN (t.take (j + 1))) u3 (j + 1) ((wr.alloc (.cells #[.int .i64 n.kind, .string n.text, .int .i64 n.num, .int .i64 n.kids] 42)).alloc (.cells #[] 69))) := by
            have e : vstep (varsN (t.take j)) n = varsN (t.take j) := by
              unfold vstep
              rw [if_neg]
              rintro ⟨h1, h2⟩
              refine hp ⟨h1, ?_⟩
              cases h : hb with
              | false => rfl
              | true => exact absurd (HAS.1 h) h2
            rw [STEP.out, e]
            exact (hV.out.below BA.out).skip
          by_cases hk : n.kind = 31
          · obtain rfl : hb = true := by
              cases h : hb with
              | true => rfl
              | false => exact absurd ⟨hk, h⟩ hp
            have t1 : (n.kind == 31) = true := by simpa using hk
            clear hn hlx g1 g2 g3 g4 gb gc hr r0 r1 hk hp HAS hhb hV hu STEP BA
            go_wp2
            go_roundw
            case rel => exact ⟨j + 1, by omega, by go_num, D, HV2⟩
            case measure => simp [intOf]; omega
          · have t1 : (n.kind == 31) = false := by simpa using hk
            clear hn hlx g1 g2 g3 g4 gb gc hr r0 r1 hk hp HAS hhb hV hu STEP BA
            go_wp2
            go_roundw
            case rel => exact ⟨j + 1, by omega, by go_num, D, HV2⟩
            case measure => simp [intOf]; omega
      · obtain rfl : j = l := by omega
        have et : t.take j = t := List.take_of_length_le (by rw [← HL.out]; omega)
        rw [et] at hV
        have E : Hid (VaP t w (.returned u3) wr) := ⟨u3, rfl, by rw [HTY.out]; exact hV.out.row, hV.out.be⟩
        clear hV hlt et
        go_wp2
        go_ret
        exact E.out
end Go.Proofs.YtncifeeinogcnaaDoor
