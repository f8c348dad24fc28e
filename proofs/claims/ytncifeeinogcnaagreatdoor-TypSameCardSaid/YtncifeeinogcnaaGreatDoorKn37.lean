/- Texts of this seat, one behind the other: TsW. -/
import Derived.Test.YtncifeeinogcnaaGreatDoorKn35
import Derived.Test.YtncifeeinogcnaaGreatDoorKn36
import Derived.Deep.RegionHeld3
import Derived.IntWalk
import Derived.Deep.RegionWith
/- The law's walk: what was made the same is the same, and needs nothing more. -/
set_option maxRecDepth 100000
namespace Go.Proofs.YtncifeeinogcnaaGreatDoor
open Go.RowKit Go.Lib Go.Maps Go.Proofs.TreeMath

theorem apply_nodes (B : Nat) (bs : List BT) (lv tv : Value) (t X : List Nd) (w : World) (h : BG B bs lv w) (hr : ∀ b ∈ bs, 0 ≤ b.1 ∧ b.1 ≤ 1048576) (h4 : ∀ b ∈ bs, b.2.1.length ≤ 4000) (hbl : bs.length ≤ 8000)
    (hns : NodesAt w tv t) (hl : t.length ≤ 1000000) (hnum : NumOk t) (hX : apN (gB bs) t = X) : Calls Tryz.prog 23 #[lv, tv] w (NRet w X) := by
  refine (apply_own B bs lv tv t w h (fun b hb => by have := hr b hb; omega) h4 (by omega) hns hl hnum).mono ?_
  rintro e w' ⟨x, rfl, ho, b⟩
  rw [hX] at ho
  exact ⟨x, rfl, SliceAt.of_owns ho, b⟩
theorem prs_get (bs : List BT) (j : Nat) (hj : j < bs.length) : ((prs bs).map Prod.fst).getD j 0 = (bs.getD j default).1 := by
  unfold prs
  rw [List.map_map, List.getD_eq_getElem?_getD, List.getElem?_map, List.getElem?_eq_getElem hj, List.getD_eq_getElem?_getD, List.getElem?_eq_getElem hj]
  rfl
theorem asc_get (l : List Int) (h : l.Pairwise (· < ·)) (j : Nat) (hj : j + 1 < l.length) : l.getD j 0 < l.getD (j + 1) 0 := by
  have := List.pairwise_iff_getElem.1 h j (j + 1) (by omega) hj (by omega)
  rw [List.getD_eq_getElem?_getD, List.getElem?_eq_getElem (by omega), List.getD_eq_getElem?_getD, List.getElem?_eq_getElem hj]
  exact this
theorem callAp (vs : Array Value) (w : World) : (callFunc 23 vs).run Tryz.prog w = .ok (.enter 23 vs) w := run_callFunc Tryz.func23 (by kernel_rfl) (by kernel_rfl) vs w
theorem callSa (vs : Array Value) (w : World) : (callFunc 20 vs).run Tryz.prog w = .ok (.enter 20 vs) w := run_callFunc Tryz.func20 (by kernel_rfl) (by kernel_rfl) vs w
set_option maxHeartbeats 1000000 in
theorem same_walk (va vb : Value) (a b : List Nd) (w : World) (ha : NodesAt w va a) (hb : NodesAt w vb b) (HT : TabW w) : Calls Tryz.prog 4 #[va, vb] w (RBt w) := by
  have AW := Lib.hid (fun w' (h : Below w.heap.size w w') => awake_any w' (fun w'' h2 => HT w'' (h.trans (h2.mono h.size))))
  have E : Hid (∀ w', Below w.heap.size w w' → RBt w (.returned (.bool true)) w') := Lib.hid fun w' h => ⟨rfl, h⟩
  have FA := Lib.hid (fun w' (h : Below w.heap.size w w') => few_any va a w' (ha.below h))
  have FB := Lib.hid (fun w' (h : Below w.heap.size w w') => few_any vb b w' (hb.below h))
  have HA := Lib.hid ha
  have HB := Lib.hid hb
  clear HT ha hb
  generalize hZ : RBt w = Z at *
  clear hZ
  cases fa : fewB a with
  | false =>
    rw [fa] at FA
    go_enter Tryz.func4, Tryz.ntmps4
    go_wp2_with fail
    refine (AW.out w (Below.refl _ _)).mono ?_
    rintro e w1 ⟨_, rfl, rfl, b1⟩
    have B1 := Lib.hid b1
    clear b1
    go_wp2_with fail
    refine (FA.out w1 B1.out).mono ?_
    rintro e w2 ⟨rfl, rfl⟩
    go_wp2_with fail
    refine (AW.out w1 B1.out).mono ?_
    rintro e w3 ⟨_, rfl, rfl, b3⟩
    have B3 := Lib.hid (E.out _ (B1.out.trans (b3.mono B1.out.size)))
    clear b3
    go_wp2
    first | go_ret | skip
    exact B3.out
  | true =>
    obtain ⟨la60, sa⟩ := fewB_small fa
    rw [fa] at FA
    cases fb : fewB b with
    | false =>
      rw [fb] at FB
      clear la60 sa
      go_enter Tryz.func4, Tryz.ntmps4
      go_wp2_with fail
      refine (AW.out w (Below.refl _ _)).mono ?_
      rintro e w1 ⟨_, rfl, rfl, b1⟩
      have B1 := Lib.hid b1
      clear b1
      go_wp2_with fail
      refine (FA.out w1 B1.out).mono ?_
      rintro e w2 ⟨rfl, rfl⟩
      go_wp2_with fail
      refine (FB.out w1 B1.out).mono ?_
      rintro e w2 ⟨rfl, rfl⟩
      go_wp2_with fail
      refine (AW.out w1 B1.out).mono ?_
      rintro e w3 ⟨_, rfl, rfl, b3⟩
      have B3 := Lib.hid (E.out _ (B1.out.trans (b3.mono B1.out.size)))
      clear b3
      go_wp2
      first | go_ret | skip
      exact B3.out
    | true =>
      obtain ⟨lb60, sb⟩ := fewB_small fb
      rw [fb] at FB
      have SA := Lib.hid (And.intro la60 sa)
      have SB := Lib.hid (And.intro lb60 sb)
      have OA := Lib.hid (fun w' (h : Below w.heap.size w w') => own_any va a w' (HA.out.below h) (by omega))
      have OB := Lib.hid (fun w' (h : Below w.heap.size w w') => own_any vb b w' (HB.out.below h) (by omega))
      clear la60 lb60 sa sb fa fb HA HB
      go_enter Tryz.func4, Tryz.ntmps4
      go_wp2_with fail
      refine (AW.out w (Below.refl _ _)).mono ?_
      rintro e w1 ⟨_, rfl, rfl, b1⟩
      have B1 := Lib.hid b1
      clear b1 AW
      go_wp2_with fail
      refine (FA.out w1 B1.out).mono ?_
      rintro e w2 ⟨rfl, rfl⟩
      go_wp2_with fail
      refine (FB.out w1 B1.out).mono ?_
      rintro e w2 ⟨rfl, rfl⟩
      go_wp2_with fail
      refine (OA.out w1 B1.out).mono ?_
      rintro e w2 ⟨v2, rfl, h2, b2⟩
      have B2 := Lib.hid (B1.out.trans (b2.mono B1.out.size))
      have V2 := Lib.hid h2
      clear b2 h2 FA FB
      go_wp2_with fail
      refine (OB.out w2 B2.out).mono ?_
      rintro e w3 ⟨v3, rfl, h3, b3⟩
      have B3 := Lib.hid (B2.out.trans (b3.mono B2.out.size))
      have U1 := Lib.hid (uy_out v2 v3 a b w3 (V2.out.below b3) h3 (by have := SA.out.1; omega) (by have := SB.out.1; omega) SA.out.2 SB.out.2)
      clear b3 h3 V2
      go_wp2_with fail
      refine U1.out.mono ?_
      rintro e w4 ⟨c4, bs, lv, rfl, o4, g4, b4⟩
      have B4 := Lib.hid (B3.out.trans (b4.mono B3.out.size))
      obtain ⟨ln1, ln2, ln3⟩ := o4.len
      obtain ⟨lq, lc, elv⟩ := row_form g4.1
      by_cases hc0 : c4 = 0
      · subst hc0
        obtain ⟨X, X1, X2, X3, X4, X5, X6, X7⟩ := o4.good SA.out.2 SB.out.2
        obtain ⟨xa, xb, xs⟩ := X1 bs rfl
        have hbl : bs.length ≤ 8000 := by simpa [prs] using ln1
        have hmem : ∀ b ∈ bs, (b.1, b.2.1) ∈ prs bs := fun b hb => by unfold prs; exact List.mem_map.2 ⟨b, hb, rfl⟩
        have hget : ∀ j, j < bs.length → bs.getD j default ∈ bs := fun j hj => by rw [getD_get bs j hj]; exact List.getElem_mem _
        have hr : ∀ b ∈ bs, 0 ≤ b.1 ∧ b.1 ≤ 1048576 := fun b hb => (ln2 _ (hmem b hb)).2
        have h4 : ∀ b ∈ bs, b.2.1.length ≤ 4000 := fun b hb => (ln2 _ (hmem b hb)).1
        have GG := Lib.hid (fun W (h : Below w4.heap.size w4 W) => (g4.keep fun g cur T hg hh _ => h.block g (Array.getElem?_eq_some_iff.1 hh).1 : BG w3.heap.size bs lv W))
        have APA := Lib.hid (fun W v (h : Below w4.heap.size w4 W) (hv : NodesAt W v a) => apply_nodes _ bs lv v a X W (GG.out W h) hr h4 hbl hv (by have := SA.out.1; omega) X5 xa)
        have APB := Lib.hid (fun W v (h : Below w4.heap.size w4 W) (hv : NodesAt W v b) => apply_nodes _ bs lv v b X W (GG.out W h) hr h4 hbl hv (by have := SB.out.1; omega) X6 xb)
        have hX : X.length ≤ 240000 := by have := SA.out.1; omega
        have APT := Lib.hid (fun W (h : Below w4.heap.size w4 W) (j : Nat) (hj : j < bs.length) => apply_nodes _ bs lv (bs.getD j default).2.2 (bs.getD j default).2.1 (bs.getD j default).2.1 W (GG.out W h) hr h4 hbl (SliceAt.of_owns ((GG.out W h).2 _ (hget j hj))) (by have := h4 _ (hget j hj); omega) (X2 _ (hmem _ (hget j hj))).2 (xs _ (hmem _ (hget j hj))))
        have ASC : Hid (∀ j, j + 1 < bs.length → (bs.getD j default).1 < (bs.getD (j + 1) default).1) := Lib.hid fun j hj => by
          have := asc_get _ X7 j (by simpa [prs] using hj)
          rw [prs_get bs j (by omega), prs_get bs (j + 1) hj] at this
          exact this
        have H4 := Lib.hid h4
        have UX := Lib.hid X4
        obtain ⟨n, hn⟩ : ∃ n, n = bs.length := ⟨_, rfl⟩
        have HN := Lib.hid hn
        subst elv
        rw [← hn] at APA APB APT GG ⊢
        rw [← hn] at hbl
        clear o4 g4 b4 U1 ln1 ln2 ln3 X1 X2 X3 X4 X5 X6 X7 xa xb xs hr h4 hmem hn hget
        go_wp2_with fail
        refine (OA.out w4 B4.out).mono ?_
        rintro e w5 ⟨v5, rfl, h5, b5⟩
        have B5 := Lib.hid (B4.out.trans (b5.mono B4.out.size))
        have C5 := Lib.hid (APA.out w5 v5 b5 h5)
        have X5 := Lib.hid b5
        clear b5 h5 OA APA
        go_wp2_with fail
        refine C5.out.mono ?_
        rintro e w6 ⟨v6, rfl, h6, b6⟩
        have B6 := Lib.hid (B5.out.trans (b6.mono B5.out.size))
        have X6 := Lib.hid (X5.out.trans (b6.mono X5.out.size))
        have V6 := Lib.hid h6
        clear b6 h6 C5 X5
        go_wp2_with fail
        refine (OB.out w6 B6.out).mono ?_
        rintro e w7 ⟨v7, rfl, h7, b7⟩
        have X7 := Lib.hid (X6.out.trans (b7.mono X6.out.size))
        have C7 := Lib.hid (APB.out w7 v7 X7.out h7)
        have V7 := Lib.hid (V6.out.below b7)
        clear b7 h7 OB APB V6
        go_wp2_with fail
        refine C7.out.mono ?_
        rintro e w8 ⟨v8, rfl, h8, b8⟩
        have X8 := Lib.hid (X7.out.trans (b8.mono X7.out.size))
        have V8 := Lib.hid (V7.out.below b8)
        have U8 := Lib.hid h8
        obtain ⟨xq, xc, exv⟩ := nodes_form V8.out
        obtain ⟨yq, yc, eyv⟩ := nodes_form U8.out
        subst exv eyv
        clear b8 h8 C7 V7 X7 X6 B5
        go_wp2
        go_loopw [9] (fun i wr => ∃ j : Nat, j ≤ n ∧ i = .int .i64 j ∧ Hid (Below w8.heap.size w8 wr)) (fun i _ => n - (intOf i).toNat)
        case atStart => exact ⟨0, Nat.zero_le _, rfl, Lib.hid (Below.refl _ _)⟩
        case round =>
          obtain ⟨wo, hwo⟩ : ∃ wo : World, wo = wr := ⟨_, rfl⟩
          subst hwo
          obtain ⟨j, hj, rfl, hB⟩ := hrel
          by_cases hlt : j < n
          · have t0 : decide ((j : Int) < (n : Int)) = true := by simpa using hlt
            have hjb : j < bs.length := by rw [← HN.out]; exact hlt
            have bW := X8.out.trans (hB.out.mono X8.out.size)
            have gg := GG.out wo bW
            obtain ⟨_, lp, lc', e', _, _, g4⟩ := SliceAt.of_owns gg.1
            obtain ⟨lb, lo, rfl, hlb, hlc⟩ := g4 (by omega)
            simp only [Value.slice.injEq] at e'
            obtain ⟨rfl, _, rfl⟩ := e'
            obtain ⟨x0, x1⟩ := btCells_get bs j hjb
            have c0 := hlc _ _ x0
            have c1 := hlc _ _ x1
            rw [← Nat.add_assoc] at c1
            have CA := Lib.hid (fun W (h : Below wo.heap.size wo W) => APT.out W (bW.trans (h.mono bW.size)) j hlt)
            have NT := Lib.hid (fun W (h : Below wo.heap.size wo W) => (SliceAt.of_owns ((GG.out W (bW.trans (h.mono bW.size))).2 (bs.getD j default) (by rw [getD_get bs j hjb]; exact List.getElem_mem _)) : NodesAt W (bs.getD j default).2.2 (bs.getD j default).2.1))
            have hl4 := H4.out (bs.getD j default) (by rw [getD_get bs j hjb]; exact List.getElem_mem _)
            have SM := Lib.hid (fun W x (h : Below wo.heap.size wo W) (hx : NodesAt W x (bs.getD j default).2.1) => ex_same x _ _ W hx (NT.out W h) (by omega))
            have ASCJ := Lib.hid (fun i (h : i + 1 = j) => (by have := ASC.out i (by omega); rw [h] at this; exact this : (bs.getD i default).1 < (bs.getD j default).1))
            have PV := Lib.hid (fun i (h : i + 1 = j) => hlc _ _ (btCells_get bs i (by omega)).1)
            obtain ⟨y, hy⟩ : ∃ y, y = bs.getD j default := ⟨_, rfl⟩
            rw [← hy] at c0 c1 CA SM ASCJ
            obtain ⟨yv, yl, yt⟩ := y
            simp only at c0 c1 CA SM ASCJ
            clear gg g4 hlc x0 x1 hl4 NT hy
            by_cases hj0 : j = 0
            · have t3 : decide ((0 : Int) < (j : Int)) = false := by simp; omega
              have HJ0 := Lib.hid hj0
              clear ASCJ PV hj0
              go_wp2_with fail
              refine wp_region_held_drew (S := fun w' => Below wo.heap.size wo w' ∧ w'.cell? ⟨lb, lo + j * 2 + 1, none⟩ = some yt) (by kernel_rfl) ⟨(Below.refl _ _).drew, ((Below.refl wo.heap.size wo).drew.cell (p := ⟨lb, lo + j * 2 + 1, none⟩) hlb).trans c1⟩ (fun hHeld => ?_)
              refine wpAnyH_take (i := 0) (oi := { dst := some 52, op := Op.move (Operand.tmp 9), type := 3, pos := "law.go:100", after := #[], guard := none }) (v := ?_) rfl (by kernel_rfl) (by kernel_rfl) (by kernel_rfl) (fun _ _ _ h => h) (Or.inl ⟨by rfl, ?_⟩) hHeld ?_
              rotate_left
              · intro w hSw; (try dsimp only at hSw); go_simp; try with_reducible rfl
              try simp only [Act.put, List.setIfInBounds_toArray, List.set_cons_zero, List.set_cons_succ]
              refine wpAnyH_take (i := 1) (oi := { dst := some 53, op := Op.binOp BinOp.gtr 3 (Operand.tmp 52) (Operand.const (Value.int IntKind.i64 0)) 3, type := 4, pos := "law.go:100", after := #[{ on := 0, ground := Ground.data }], guard := none }) (v := Value.bool false) rfl (by kernel_rfl) (by kernel_rfl) (by kernel_rfl) (fun _ _ _ h => h) (Or.inl ⟨by rfl, ?_⟩) hHeld ?_
              · intro w hSw; (try dsimp only at hSw); go_simp; exact HJ0.out; try with_reducible rfl
              try simp only [Act.put, List.setIfInBounds_toArray, List.set_cons_zero, List.set_cons_succ]
              refine wpAnyH_take (i := 2) (oi := { dst := some 54, op := Op.move (Operand.tmp 53), type := 4, pos := "law.go:100", after := #[{ on := 1, ground := Ground.data }], guard := none }) (v := Value.bool false) rfl (by kernel_rfl) (by kernel_rfl) (by kernel_rfl) (fun _ _ _ h => h) (Or.inl ⟨by rfl, ?_⟩) hHeld ?_
              · intro w hSw; (try dsimp only at hSw); go_simp; try with_reducible rfl
              try simp only [Act.put, List.setIfInBounds_toArray, List.set_cons_zero, List.set_cons_succ]
              refine wpAnyH_take (i := 3) (oi := { dst := some 55, op := Op.move (Operand.tmp 5), type := 35, pos := "law.go:100", after := #[{ on := 2, ground := Ground.guard }], guard := some (2, true) }) (v := undef) rfl (by kernel_rfl) (by kernel_rfl) (by kernel_rfl) (fun _ _ _ h => h) (Or.inr ⟨by rfl, rfl⟩) hHeld ?_
              try simp only [Act.put, List.setIfInBounds_toArray, List.set_cons_zero, List.set_cons_succ]
              refine wpAnyH_take (i := 4) (oi := { dst := some 56, op := Op.move (Operand.tmp 9), type := 3, pos := "law.go:100", after := #[{ on := 2, ground := Ground.guard }], guard := some (2, true) }) (v := undef) rfl (by kernel_rfl) (by kernel_rfl) (by kernel_rfl) (fun _ _ _ h => h) (Or.inr ⟨by rfl, rfl⟩) hHeld ?_
              try simp only [Act.put, List.setIfInBounds_toArray, List.set_cons_zero, List.set_cons_succ]
              refine wpAnyH_take (i := 5) (oi := { dst := some 57, op := Op.binOp BinOp.sub 3 (Operand.tmp 56) (Operand.const (Value.int IntKind.i64 1)) 3, type := 3, pos := "law.go:100", after := #[{ on := 4, ground := Ground.data }, { on := 2, ground := Ground.guard }], guard := some (2, true) }) (v := undef) rfl (by kernel_rfl) (by kernel_rfl) (by kernel_rfl) (fun _ _ _ h => h) (Or.inr ⟨by rfl, rfl⟩) hHeld ?_
              try simp only [Act.put, List.setIfInBounds_toArray, List.set_cons_zero, List.set_cons_succ]
              refine wpAnyH_take (i := 6) (oi := { dst := some 58, op := Op.indexAddr 35 (Operand.tmp 55) (Operand.tmp 57), type := 0, pos := "law.go:100", after := #[{ on := 3, ground := Ground.data }, { on := 5, ground := Ground.data }, { on := 2, ground := Ground.guard }], guard := some (2, true) }) (v := undef) rfl (by kernel_rfl) (by kernel_rfl) (by kernel_rfl) (fun _ _ _ h => h) (Or.inr ⟨by rfl, rfl⟩) hHeld ?_
              try simp only [Act.put, List.setIfInBounds_toArray, List.set_cons_zero, List.set_cons_succ]
              refine wpAnyH_take (i := 7) (oi := { dst := some 59, op := Op.fieldAddr 40 (Operand.tmp 58) 0, type := 0, pos := "law.go:100", after := #[{ on := 6, ground := Ground.data }, { on := 2, ground := Ground.guard }], guard := some (2, true) }) (v := undef) rfl (by kernel_rfl) (by kernel_rfl) (by kernel_rfl) (fun _ _ _ h => h) (Or.inr ⟨by rfl, rfl⟩) hHeld ?_
              try simp only [Act.put, List.setIfInBounds_toArray, List.set_cons_zero, List.set_cons_succ]
              refine wpAnyH_take (i := 8) (oi := { dst := some 60, op := Op.load 3 (Operand.tmp 59), type := 3, pos := "law.go:100", after := #[{ on := 7, ground := Ground.data }, { on := 2, ground := Ground.guard }], guard := some (2, true) }) (v := undef) rfl (by kernel_rfl) (by kernel_rfl) (by kernel_rfl) (fun _ _ _ h => h) (Or.inr ⟨by rfl, rfl⟩) hHeld ?_
              try simp only [Act.put, List.setIfInBounds_toArray, List.set_cons_zero, List.set_cons_succ]
              refine wpAnyH_take (i := 9) (oi := { dst := some 61, op := Op.move (Operand.tmp 5), type := 35, pos := "law.go:100", after := #[{ on := 2, ground := Ground.guard }], guard := some (2, true) }) (v := undef) rfl (by kernel_rfl) (by kernel_rfl) (by kernel_rfl) (fun _ _ _ h => h) (Or.inr ⟨by rfl, rfl⟩) hHeld ?_
              try simp only [Act.put, List.setIfInBounds_toArray, List.set_cons_zero, List.set_cons_succ]
              refine wpAnyH_take (i := 10) (oi := { dst := some 62, op := Op.move (Operand.tmp 9), type := 3, pos := "law.go:100", after := #[{ on := 2, ground := Ground.guard }], guard := some (2, true) }) (v := undef) rfl (by kernel_rfl) (by kernel_rfl) (by kernel_rfl) (fun _ _ _ h => h) (Or.inr ⟨by rfl, rfl⟩) hHeld ?_
              try simp only [Act.put, List.setIfInBounds_toArray, List.set_cons_zero, List.set_cons_succ]
              refine wpAnyH_take (i := 11) (oi := { dst := some 63, op := Op.indexAddr 35 (Operand.tmp 61) (Operand.tmp 62), type := 0, pos := "law.go:100", after := #[{ on := 9, ground := Ground.data }, { on := 10, ground := Ground.data }, { on := 2, ground := Ground.guard }], guard := some (2, true) }) (v := undef) rfl (by kernel_rfl) (by kernel_rfl) (by kernel_rfl) (fun _ _ _ h => h) (Or.inr ⟨by rfl, rfl⟩) hHeld ?_
              try simp only [Act.put, List.setIfInBounds_toArray, List.set_cons_zero, List.set_cons_succ]
              refine wpAnyH_take (i := 12) (oi := { dst := some 64, op := Op.fieldAddr 40 (Operand.tmp 63) 0, type := 0, pos := "law.go:100", after := #[{ on := 11, ground := Ground.data }, { on := 2, ground := Ground.guard }], guard := some (2, true) }) (v := undef) rfl (by kernel_rfl) (by kernel_rfl) (by kernel_rfl) (fun _ _ _ h => h) (Or.inr ⟨by rfl, rfl⟩) hHeld ?_
              try simp only [Act.put, List.setIfInBounds_toArray, List.set_cons_zero, List.set_cons_succ]
              refine wpAnyH_take (i := 13) (oi := { dst := some 65, op := Op.load 3 (Operand.tmp 64), type := 3, pos := "law.go:100", after := #[{ on := 12, ground := Ground.data }, { on := 2, ground := Ground.guard }], guard := some (2, true) }) (v := undef) rfl (by kernel_rfl) (by kernel_rfl) (by kernel_rfl) (fun _ _ _ h => h) (Or.inr ⟨by rfl, rfl⟩) hHeld ?_
              try simp only [Act.put, List.setIfInBounds_toArray, List.set_cons_zero, List.set_cons_succ]
              refine wpAnyH_take (i := 14) (oi := { dst := some 66, op := Op.binOp BinOp.geq 3 (Operand.tmp 60) (Operand.tmp 65) 3, type := 4, pos := "law.go:100", after := #[{ on := 8, ground := Ground.data }, { on := 13, ground := Ground.data }, { on := 2, ground := Ground.guard }], guard := some (2, true) }) (v := undef) rfl (by kernel_rfl) (by kernel_rfl) (by kernel_rfl) (fun _ _ _ h => h) (Or.inr ⟨by rfl, rfl⟩) hHeld ?_
              try simp only [Act.put, List.setIfInBounds_toArray, List.set_cons_zero, List.set_cons_succ]
              refine wpAnyH_take (i := 15) (oi := { dst := some 67, op := Op.pick (Operand.tmp 54) (Operand.tmp 66) (Operand.const (Value.bool false)), type := 4, pos := "law.go:100", after := #[{ on := 2, ground := Ground.data }, { on := 14, ground := Ground.data }], guard := none }) (v := ?_) rfl (by kernel_rfl) (by kernel_rfl) (by kernel_rfl) (fun _ _ _ h => h) (Or.inl ⟨by rfl, ?_⟩) hHeld ?_
              rotate_left
              · intro w hSw; (try dsimp only at hSw); go_simp; try with_reducible rfl
              try simp only [Act.put, List.setIfInBounds_toArray, List.set_cons_zero, List.set_cons_succ]
              refine wpAnyH_take (i := 16) (oi := { dst := some 68, op := Op.move (Operand.tmp 67), type := 4, pos := "law.go:100", after := #[{ on := 15, ground := Ground.data }, { on := 2, ground := Ground.chain }], guard := none }) (v := ?_) rfl (by kernel_rfl) (by kernel_rfl) (by kernel_rfl) (fun _ _ _ h => h) (Or.inl ⟨by rfl, ?_⟩) hHeld ?_
              rotate_left
              · intro w hSw; (try dsimp only at hSw); go_simp; try with_reducible rfl
              try simp only [Act.put, List.setIfInBounds_toArray, List.set_cons_zero, List.set_cons_succ]
              refine wpAnyH_take (i := 17) (oi := { dst := some 69, op := Op.move (Operand.tmp 5), type := 35, pos := "law.go:100", after := #[{ on := 16, ground := Ground.guard }], guard := some (16, false) }) (v := ?_) rfl (by kernel_rfl) (by kernel_rfl) (by kernel_rfl) (fun _ _ _ h => h) (Or.inl ⟨by rfl, ?_⟩) hHeld ?_
              rotate_left
              · intro w hSw; (try dsimp only at hSw); go_simp; try with_reducible rfl
              try simp only [Act.put, List.setIfInBounds_toArray, List.set_cons_zero, List.set_cons_succ]
              refine wpAnyH_take (i := 18) (oi := { dst := some 70, op := Op.move (Operand.tmp 5), type := 35, pos := "law.go:100", after := #[{ on := 16, ground := Ground.guard }], guard := some (16, false) }) (v := ?_) rfl (by kernel_rfl) (by kernel_rfl) (by kernel_rfl) (fun _ _ _ h => h) (Or.inl ⟨by rfl, ?_⟩) hHeld ?_
              rotate_left
              · intro w hSw; (try dsimp only at hSw); go_simp; try with_reducible rfl
              try simp only [Act.put, List.setIfInBounds_toArray, List.set_cons_zero, List.set_cons_succ]
              refine wpAnyH_take (i := 19) (oi := { dst := some 71, op := Op.move (Operand.tmp 9), type := 3, pos := "law.go:100", after := #[{ on := 16, ground := Ground.guard }], guard := some (16, false) }) (v := ?_) rfl (by kernel_rfl) (by kernel_rfl) (by kernel_rfl) (fun _ _ _ h => h) (Or.inl ⟨by rfl, ?_⟩) hHeld ?_
              rotate_left
              · intro w hSw; (try dsimp only at hSw); go_simp; try with_reducible rfl
              try simp only [Act.put, List.setIfInBounds_toArray, List.set_cons_zero, List.set_cons_succ]
              refine wpAnyH_take (i := 20) (oi := { dst := some 72, op := Op.indexAddr 35 (Operand.tmp 70) (Operand.tmp 71), type := 0, pos := "law.go:100", after := #[{ on := 18, ground := Ground.data }, { on := 19, ground := Ground.data }, { on := 16, ground := Ground.guard }], guard := some (16, false) }) (v := ?_) rfl (by kernel_rfl) (by kernel_rfl) (by kernel_rfl) (fun _ _ _ h => h) (Or.inl ⟨by rfl, ?_⟩) hHeld ?_
              rotate_left
              · intro w hSw; (try dsimp only at hSw); go_simp; try with_reducible rfl
              try simp only [Act.put, List.setIfInBounds_toArray, List.set_cons_zero, List.set_cons_succ]
              refine wpAnyH_take (i := 21) (oi := { dst := some 73, op := Op.fieldAddr 40 (Operand.tmp 72) 1, type := 0, pos := "law.go:100", after := #[{ on := 20, ground := Ground.data }, { on := 16, ground := Ground.guard }], guard := some (16, false) }) (v := ?_) rfl (by kernel_rfl) (by kernel_rfl) (by kernel_rfl) (fun _ _ _ h => h) (Or.inl ⟨by rfl, ?_⟩) hHeld ?_
              rotate_left
              · intro w hSw; (try dsimp only at hSw); go_simp; try with_reducible rfl
              try simp only [Act.put, List.setIfInBounds_toArray, List.set_cons_zero, List.set_cons_succ]
              refine wpAnyH_take (i := 22) (oi := { dst := some 74, op := Op.load 22 (Operand.tmp 73), type := 22, pos := "law.go:100", after := #[{ on := 21, ground := Ground.data }, { on := 16, ground := Ground.guard }], guard := some (16, false) }) (v := ?_) rfl (by kernel_rfl) (by kernel_rfl) (by kernel_rfl) (fun _ _ _ h => h) (Or.inl ⟨by rfl, ?_⟩) hHeld ?_
              rotate_left
              · intro w hSw; (try dsimp only at hSw); go_simp; try with_reducible rfl
              try simp only [Act.put, List.setIfInBounds_toArray, List.set_cons_zero, List.set_cons_succ]
              refine wpAnyH_take (i := 24) (oi := { dst := some 76, op := Op.move (Operand.tmp 5), type := 35, pos := "law.go:100", after := #[{ on := 16, ground := Ground.guard }], guard := some (16, false) }) (v := ?_) rfl (by kernel_rfl) (by kernel_rfl) (by kernel_rfl) (fun _ _ _ h => h) (Or.inl ⟨by rfl, ?_⟩) hHeld ?_
              rotate_left
              · intro w hSw; (try dsimp only at hSw); go_simp; try with_reducible rfl
              try simp only [Act.put, List.setIfInBounds_toArray, List.set_cons_zero, List.set_cons_succ]
              refine wpAnyH_take (i := 25) (oi := { dst := some 77, op := Op.move (Operand.tmp 9), type := 3, pos := "law.go:100", after := #[{ on := 16, ground := Ground.guard }], guard := some (16, false) }) (v := ?_) rfl (by kernel_rfl) (by kernel_rfl) (by kernel_rfl) (fun _ _ _ h => h) (Or.inl ⟨by rfl, ?_⟩) hHeld ?_
              rotate_left
              · intro w hSw; (try dsimp only at hSw); go_simp; try with_reducible rfl
              try simp only [Act.put, List.setIfInBounds_toArray, List.set_cons_zero, List.set_cons_succ]
              refine wpAnyH_take (i := 26) (oi := { dst := some 78, op := Op.indexAddr 35 (Operand.tmp 76) (Operand.tmp 77), type := 0, pos := "law.go:100", after := #[{ on := 24, ground := Ground.data }, { on := 25, ground := Ground.data }, { on := 16, ground := Ground.guard }], guard := some (16, false) }) (v := ?_) rfl (by kernel_rfl) (by kernel_rfl) (by kernel_rfl) (fun _ _ _ h => h) (Or.inl ⟨by rfl, ?_⟩) hHeld ?_
              rotate_left
              · intro w hSw; (try dsimp only at hSw); go_simp; try with_reducible rfl
              try simp only [Act.put, List.setIfInBounds_toArray, List.set_cons_zero, List.set_cons_succ]
              refine wpAnyH_take (i := 27) (oi := { dst := some 79, op := Op.fieldAddr 40 (Operand.tmp 78) 1, type := 0, pos := "law.go:100", after := #[{ on := 26, ground := Ground.data }, { on := 16, ground := Ground.guard }], guard := some (16, false) }) (v := ?_) rfl (by kernel_rfl) (by kernel_rfl) (by kernel_rfl) (fun _ _ _ h => h) (Or.inl ⟨by rfl, ?_⟩) hHeld ?_
              rotate_left
              · intro w hSw; (try dsimp only at hSw); go_simp; try with_reducible rfl
              try simp only [Act.put, List.setIfInBounds_toArray, List.set_cons_zero, List.set_cons_succ]
              refine wpAnyH_take (i := 28) (oi := { dst := some 80, op := Op.load 22 (Operand.tmp 79), type := 22, pos := "law.go:100", after := #[{ on := 27, ground := Ground.data }, { on := 16, ground := Ground.guard }], guard := some (16, false) }) (v := ?_) rfl (by kernel_rfl) (by kernel_rfl) (by kernel_rfl) (fun _ _ _ h => h) (Or.inl ⟨by rfl, ?_⟩) hHeld ?_
              rotate_left
              · intro w hSw; (try dsimp only at hSw); go_simp; try with_reducible rfl
              try simp only [Act.put, List.setIfInBounds_toArray, List.set_cons_zero, List.set_cons_succ]
              refine wpAnyH_ready (rs := [23]) (by kernel_rfl) (by simp) ?_
              refine AllReadyH.cons (o := { dst := some 75, op := Op.call { callee := Callee.value (Operand.func 23), args := #[Operand.tmp 69, Operand.tmp 74], argTypes := #[35, 22] }, type := 22, pos := "law.go:100", after := #[{ on := 17, ground := Ground.data }, { on := 22, ground := Ground.data }, { on := 16, ground := Ground.chain }, { on := 16, ground := Ground.guard }], guard := some (16, false) }) rfl (fun K hK => ?_) AllReadyH.nil
              refine step_call_fn_if (by rfl) 23 #[.tmp 69, .tmp 74] #[35, 22] (by rfl) callAp #[.slice (some ⟨lb, lo, none⟩) n lc, yt] (by simp [go_sem]; exact HN.out.symm) ?_
              refine Calls.mono (CA.out _ (Below.refl _ _).drew) ?_
              rintro e w9 ⟨v9, rfl, h9, b9⟩
              refine ⟨_, rfl, ?_⟩
              have B9 := Lib.hid ((Below.refl wo.heap.size wo).drew.trans b9)
              have H9 := Lib.hid h9
              clear h9 b9
              refine hK.out _ _ ⟨B9.out, (B9.out.cell (p := ⟨lb, lo + j * 2 + 1, none⟩) hlb).trans c1⟩ (fun hHeld => ?_)
              clear hK K
              simp only [Act.put, List.setIfInBounds_toArray, List.set_cons_zero, List.set_cons_succ]
              refine wpAnyH_ready (rs := [29]) (by kernel_rfl) (by simp) ?_
              refine AllReadyH.cons (o := { dst := some 81, op := Op.call { callee := Callee.value (Operand.func 20), args := #[Operand.tmp 75, Operand.tmp 80], argTypes := #[22, 22] }, type := 4, pos := "law.go:100", after := #[{ on := 23, ground := Ground.data }, { on := 28, ground := Ground.data }, { on := 23, ground := Ground.chain }, { on := 16, ground := Ground.guard }], guard := some (16, false) }) rfl (fun K hK => ?_) AllReadyH.nil
              refine step_call_fn_if (by rfl) 20 #[.tmp 75, .tmp 80] #[22, 22] (by rfl) callSa #[v9, yt] (by simp [go_sem]) ?_
              refine Calls.mono (SM.out _ _ B9.out H9.out) ?_
              rintro e w10 ⟨rfl, b10⟩
              refine ⟨_, rfl, ?_⟩
              have B10 := Lib.hid (B9.out.trans (b10.mono B9.out.size))
              clear b10
              refine hK.out _ _ ⟨B10.out, (B10.out.cell (p := ⟨lb, lo + j * 2 + 1, none⟩) hlb).trans c1⟩ (fun hHeld => ?_)
              clear hK K
              simp only [Act.put, List.setIfInBounds_toArray, List.set_cons_zero, List.set_cons_succ]
              refine wpAnyH_take (i := 30) (oi := { dst := some 82, op := Op.unOp UnOp.not 4 (Operand.tmp 81), type := 4, pos := "law.go:100", after := #[{ on := 29, ground := Ground.data }, { on := 16, ground := Ground.guard }], guard := some (16, false) }) (v := ?_) rfl (by kernel_rfl) (by kernel_rfl) (by kernel_rfl) (fun _ _ _ h => h) (Or.inl ⟨by rfl, ?_⟩) hHeld ?_
              rotate_left
              · intro w hSw; (try dsimp only at hSw); go_simp; try with_reducible rfl
              try simp only [Act.put, List.setIfInBounds_toArray, List.set_cons_zero, List.set_cons_succ]
              refine wpAnyH_take (i := 31) (oi := { dst := some 83, op := Op.pick (Operand.tmp 68) (Operand.const (Value.bool true)) (Operand.tmp 82), type := 4, pos := "law.go:100", after := #[{ on := 16, ground := Ground.data }, { on := 30, ground := Ground.data }], guard := none }) (v := ?_) rfl (by kernel_rfl) (by kernel_rfl) (by kernel_rfl) (fun _ _ _ h => h) (Or.inl ⟨by rfl, ?_⟩) hHeld ?_
              rotate_left
              · intro w hSw; (try dsimp only at hSw); go_simp; try with_reducible rfl
              try simp only [Act.put, List.setIfInBounds_toArray, List.set_cons_zero, List.set_cons_succ]
              refine wpAnyH_done (by kernel_rfl) ?_ _
              have BN := Lib.hid (hB.out.trans (B10.out.mono hB.out.size))
              clear hHeld c1
              go_wp2
              go_roundw
              case rel => exact ⟨j + 1, by omega, by go_num, BN⟩
              case measure => simp [intOf]; omega
            · obtain ⟨i, hi⟩ : ∃ i, i + 1 = j := ⟨j - 1, by omega⟩
              have cp := PV.out i hi
              have hlt2 := ASCJ.out i hi
              obtain ⟨pv, hpv⟩ : ∃ pv, pv = (bs.getD i default).1 := ⟨_, rfl⟩
              rw [← hpv] at cp hlt2
              have t3 : decide ((0 : Int) < (j : Int)) = true := by simp; omega
              have t4 : decide (yv ≤ pv) = false := by simp; omega
              have hji : (j : Int) - 1 = (i : Int) := by omega
              have hin : i < bs.length := by omega
              have HJ0 := Lib.hid (show 0 < j by omega)
              clear ASCJ PV hj0 hpv hlt2 hi
              go_wp2_with fail
              refine wp_region_held_drew (S := fun w' => Below wo.heap.size wo w' ∧ w'.cell? ⟨lb, lo + j * 2 + 1, none⟩ = some yt ∧ w'.cell? ⟨lb, lo + i * 2, none⟩ = some (.int .i64 pv) ∧ w'.cell? ⟨lb, lo + j * 2, none⟩ = some (.int .i64 yv)) (by kernel_rfl) ⟨(Below.refl wo.heap.size wo).drew, ((Below.refl wo.heap.size wo).drew.cell (p := ⟨lb, lo + j * 2 + 1, none⟩) hlb).trans c1, ((Below.refl wo.heap.size wo).drew.cell (p := ⟨lb, lo + i * 2, none⟩) hlb).trans cp, ((Below.refl wo.heap.size wo).drew.cell (p := ⟨lb, lo + j * 2, none⟩) hlb).trans c0⟩ (fun hHeld => ?_)
              refine wpAnyH_take (i := 0) (oi := { dst := some 52, op := Op.move (Operand.tmp 9), type := 3, pos := "law.go:100", after := #[], guard := none }) (v := ?_) rfl (by kernel_rfl) (by kernel_rfl) (by kernel_rfl) (fun _ _ _ h => h) (Or.inl ⟨by rfl, ?_⟩) hHeld ?_
              rotate_left
              · intro w hSw; (try dsimp only at hSw); go_simp; try with_reducible rfl
              try simp only [Act.put, List.setIfInBounds_toArray, List.set_cons_zero, List.set_cons_succ]
              refine wpAnyH_take (i := 1) (oi := { dst := some 53, op := Op.binOp BinOp.gtr 3 (Operand.tmp 52) (Operand.const (Value.int IntKind.i64 0)) 3, type := 4, pos := "law.go:100", after := #[{ on := 0, ground := Ground.data }], guard := none }) (v := Value.bool true) rfl (by kernel_rfl) (by kernel_rfl) (by kernel_rfl) (fun _ _ _ h => h) (Or.inl ⟨by rfl, ?_⟩) hHeld ?_
              · intro w hSw; (try dsimp only at hSw); go_simp; exact HJ0.out; try with_reducible rfl
              try simp only [Act.put, List.setIfInBounds_toArray, List.set_cons_zero, List.set_cons_succ]
              refine wpAnyH_take (i := 2) (oi := { dst := some 54, op := Op.move (Operand.tmp 53), type := 4, pos := "law.go:100", after := #[{ on := 1, ground := Ground.data }], guard := none }) (v := Value.bool true) rfl (by kernel_rfl) (by kernel_rfl) (by kernel_rfl) (fun _ _ _ h => h) (Or.inl ⟨by rfl, ?_⟩) hHeld ?_
              · intro w hSw; (try dsimp only at hSw); go_simp; try with_reducible rfl
              try simp only [Act.put, List.setIfInBounds_toArray, List.set_cons_zero, List.set_cons_succ]
              refine wpAnyH_take (i := 3) (oi := { dst := some 55, op := Op.move (Operand.tmp 5), type := 35, pos := "law.go:100", after := #[{ on := 2, ground := Ground.guard }], guard := some (2, true) }) (v := ?_) rfl (by kernel_rfl) (by kernel_rfl) (by kernel_rfl) (fun _ _ _ h => h) (Or.inl ⟨by rfl, ?_⟩) hHeld ?_
              rotate_left
              · intro w hSw; (try dsimp only at hSw); go_simp; try with_reducible rfl
              try simp only [Act.put, List.setIfInBounds_toArray, List.set_cons_zero, List.set_cons_succ]
              refine wpAnyH_take (i := 4) (oi := { dst := some 56, op := Op.move (Operand.tmp 9), type := 3, pos := "law.go:100", after := #[{ on := 2, ground := Ground.guard }], guard := some (2, true) }) (v := ?_) rfl (by kernel_rfl) (by kernel_rfl) (by kernel_rfl) (fun _ _ _ h => h) (Or.inl ⟨by rfl, ?_⟩) hHeld ?_
              rotate_left
              · intro w hSw; (try dsimp only at hSw); go_simp; try with_reducible rfl
              try simp only [Act.put, List.setIfInBounds_toArray, List.set_cons_zero, List.set_cons_succ]
              refine wpAnyH_take (i := 5) (oi := { dst := some 57, op := Op.binOp BinOp.sub 3 (Operand.tmp 56) (Operand.const (Value.int IntKind.i64 1)) 3, type := 3, pos := "law.go:100", after := #[{ on := 4, ground := Ground.data }, { on := 2, ground := Ground.guard }], guard := some (2, true) }) (v := Value.int .i64 (i : Int)) rfl (by kernel_rfl) (by kernel_rfl) (by kernel_rfl) (fun _ _ _ h => h) (Or.inl ⟨by rfl, ?_⟩) hHeld ?_
              · intro w hSw; (try dsimp only at hSw); go_simp; exact IntWalk.i64_in _ (by omega)
              try simp only [Act.put, List.setIfInBounds_toArray, List.set_cons_zero, List.set_cons_succ]
              refine wpAnyH_take (i := 6) (oi := { dst := some 58, op := Op.indexAddr 35 (Operand.tmp 55) (Operand.tmp 57), type := 0, pos := "law.go:100", after := #[{ on := 3, ground := Ground.data }, { on := 5, ground := Ground.data }, { on := 2, ground := Ground.guard }], guard := some (2, true) }) (v := ?_) rfl (by kernel_rfl) (by kernel_rfl) (by kernel_rfl) (fun _ _ _ h => h) (Or.inl ⟨by rfl, ?_⟩) hHeld ?_
              rotate_left
              · intro w hSw; (try dsimp only at hSw); go_simp; try with_reducible rfl
              try simp only [Act.put, List.setIfInBounds_toArray, List.set_cons_zero, List.set_cons_succ]
              refine wpAnyH_take (i := 7) (oi := { dst := some 59, op := Op.fieldAddr 40 (Operand.tmp 58) 0, type := 0, pos := "law.go:100", after := #[{ on := 6, ground := Ground.data }, { on := 2, ground := Ground.guard }], guard := some (2, true) }) (v := ?_) rfl (by kernel_rfl) (by kernel_rfl) (by kernel_rfl) (fun _ _ _ h => h) (Or.inl ⟨by rfl, ?_⟩) hHeld ?_
              rotate_left
              · intro w hSw; (try dsimp only at hSw); go_simp; try with_reducible rfl
              try simp only [Act.put, List.setIfInBounds_toArray, List.set_cons_zero, List.set_cons_succ]
              refine wpAnyH_take (i := 8) (oi := { dst := some 60, op := Op.load 3 (Operand.tmp 59), type := 3, pos := "law.go:100", after := #[{ on := 7, ground := Ground.data }, { on := 2, ground := Ground.guard }], guard := some (2, true) }) (v := ?_) rfl (by kernel_rfl) (by kernel_rfl) (by kernel_rfl) (fun _ _ _ h => h) (Or.inl ⟨by rfl, ?_⟩) hHeld ?_
              rotate_left
              · intro w hSw; (try dsimp only at hSw); go_simp; try with_reducible rfl
              try simp only [Act.put, List.setIfInBounds_toArray, List.set_cons_zero, List.set_cons_succ]
              refine wpAnyH_take (i := 9) (oi := { dst := some 61, op := Op.move (Operand.tmp 5), type := 35, pos := "law.go:100", after := #[{ on := 2, ground := Ground.guard }], guard := some (2, true) }) (v := ?_) rfl (by kernel_rfl) (by kernel_rfl) (by kernel_rfl) (fun _ _ _ h => h) (Or.inl ⟨by rfl, ?_⟩) hHeld ?_
              rotate_left
              · intro w hSw; (try dsimp only at hSw); go_simp; try with_reducible rfl
              try simp only [Act.put, List.setIfInBounds_toArray, List.set_cons_zero, List.set_cons_succ]
              refine wpAnyH_take (i := 10) (oi := { dst := some 62, op := Op.move (Operand.tmp 9), type := 3, pos := "law.go:100", after := #[{ on := 2, ground := Ground.guard }], guard := some (2, true) }) (v := ?_) rfl (by kernel_rfl) (by kernel_rfl) (by kernel_rfl) (fun _ _ _ h => h) (Or.inl ⟨by rfl, ?_⟩) hHeld ?_
              rotate_left
              · intro w hSw; (try dsimp only at hSw); go_simp; try with_reducible rfl
              try simp only [Act.put, List.setIfInBounds_toArray, List.set_cons_zero, List.set_cons_succ]
              refine wpAnyH_take (i := 11) (oi := { dst := some 63, op := Op.indexAddr 35 (Operand.tmp 61) (Operand.tmp 62), type := 0, pos := "law.go:100", after := #[{ on := 9, ground := Ground.data }, { on := 10, ground := Ground.data }, { on := 2, ground := Ground.guard }], guard := some (2, true) }) (v := ?_) rfl (by kernel_rfl) (by kernel_rfl) (by kernel_rfl) (fun _ _ _ h => h) (Or.inl ⟨by rfl, ?_⟩) hHeld ?_
              rotate_left
              · intro w hSw; (try dsimp only at hSw); go_simp; try with_reducible rfl
              try simp only [Act.put, List.setIfInBounds_toArray, List.set_cons_zero, List.set_cons_succ]
              refine wpAnyH_take (i := 12) (oi := { dst := some 64, op := Op.fieldAddr 40 (Operand.tmp 63) 0, type := 0, pos := "law.go:100", after := #[{ on := 11, ground := Ground.data }, { on := 2, ground := Ground.guard }], guard := some (2, true) }) (v := ?_) rfl (by kernel_rfl) (by kernel_rfl) (by kernel_rfl) (fun _ _ _ h => h) (Or.inl ⟨by rfl, ?_⟩) hHeld ?_
              rotate_left
              · intro w hSw; (try dsimp only at hSw); go_simp; try with_reducible rfl
              try simp only [Act.put, List.setIfInBounds_toArray, List.set_cons_zero, List.set_cons_succ]
              refine wpAnyH_take (i := 13) (oi := { dst := some 65, op := Op.load 3 (Operand.tmp 64), type := 3, pos := "law.go:100", after := #[{ on := 12, ground := Ground.data }, { on := 2, ground := Ground.guard }], guard := some (2, true) }) (v := ?_) rfl (by kernel_rfl) (by kernel_rfl) (by kernel_rfl) (fun _ _ _ h => h) (Or.inl ⟨by rfl, ?_⟩) hHeld ?_
              rotate_left
              · intro w hSw; (try dsimp only at hSw); go_simp; try with_reducible rfl
              try simp only [Act.put, List.setIfInBounds_toArray, List.set_cons_zero, List.set_cons_succ]
              refine wpAnyH_take (i := 14) (oi := { dst := some 66, op := Op.binOp BinOp.geq 3 (Operand.tmp 60) (Operand.tmp 65) 3, type := 4, pos := "law.go:100", after := #[{ on := 8, ground := Ground.data }, { on := 13, ground := Ground.data }, { on := 2, ground := Ground.guard }], guard := some (2, true) }) (v := Value.bool false) rfl (by kernel_rfl) (by kernel_rfl) (by kernel_rfl) (fun _ _ _ h => h) (Or.inl ⟨by rfl, ?_⟩) hHeld ?_
              · intro w hSw; (try dsimp only at hSw); go_simp; try with_reducible rfl
              try simp only [Act.put, List.setIfInBounds_toArray, List.set_cons_zero, List.set_cons_succ]
              refine wpAnyH_take (i := 15) (oi := { dst := some 67, op := Op.pick (Operand.tmp 54) (Operand.tmp 66) (Operand.const (Value.bool false)), type := 4, pos := "law.go:100", after := #[{ on := 2, ground := Ground.data }, { on := 14, ground := Ground.data }], guard := none }) (v := Value.bool false) rfl (by kernel_rfl) (by kernel_rfl) (by kernel_rfl) (fun _ _ _ h => h) (Or.inl ⟨by rfl, ?_⟩) hHeld ?_
              · intro w hSw; (try dsimp only at hSw); go_simp; try with_reducible rfl
              try simp only [Act.put, List.setIfInBounds_toArray, List.set_cons_zero, List.set_cons_succ]
              refine wpAnyH_take (i := 16) (oi := { dst := some 68, op := Op.move (Operand.tmp 67), type := 4, pos := "law.go:100", after := #[{ on := 15, ground := Ground.data }, { on := 2, ground := Ground.chain }], guard := none }) (v := Value.bool false) rfl (by kernel_rfl) (by kernel_rfl) (by kernel_rfl) (fun _ _ _ h => h) (Or.inl ⟨by rfl, ?_⟩) hHeld ?_
              · intro w hSw; (try dsimp only at hSw); go_simp; try with_reducible rfl
              try simp only [Act.put, List.setIfInBounds_toArray, List.set_cons_zero, List.set_cons_succ]
              refine wpAnyH_take (i := 17) (oi := { dst := some 69, op := Op.move (Operand.tmp 5), type := 35, pos := "law.go:100", after := #[{ on := 16, ground := Ground.guard }], guard := some (16, false) }) (v := ?_) rfl (by kernel_rfl) (by kernel_rfl) (by kernel_rfl) (fun _ _ _ h => h) (Or.inl ⟨by rfl, ?_⟩) hHeld ?_
              rotate_left
              · intro w hSw; (try dsimp only at hSw); go_simp; try with_reducible rfl
              try simp only [Act.put, List.setIfInBounds_toArray, List.set_cons_zero, List.set_cons_succ]
              refine wpAnyH_take (i := 18) (oi := { dst := some 70, op := Op.move (Operand.tmp 5), type := 35, pos := "law.go:100", after := #[{ on := 16, ground := Ground.guard }], guard := some (16, false) }) (v := ?_) rfl (by kernel_rfl) (by kernel_rfl) (by kernel_rfl) (fun _ _ _ h => h) (Or.inl ⟨by rfl, ?_⟩) hHeld ?_
              rotate_left
              · intro w hSw; (try dsimp only at hSw); go_simp; try with_reducible rfl
              try simp only [Act.put, List.setIfInBounds_toArray, List.set_cons_zero, List.set_cons_succ]
              refine wpAnyH_take (i := 19) (oi := { dst := some 71, op := Op.move (Operand.tmp 9), type := 3, pos := "law.go:100", after := #[{ on := 16, ground := Ground.guard }], guard := some (16, false) }) (v := ?_) rfl (by kernel_rfl) (by kernel_rfl) (by kernel_rfl) (fun _ _ _ h => h) (Or.inl ⟨by rfl, ?_⟩) hHeld ?_
              rotate_left
              · intro w hSw; (try dsimp only at hSw); go_simp; try with_reducible rfl
              try simp only [Act.put, List.setIfInBounds_toArray, List.set_cons_zero, List.set_cons_succ]
              refine wpAnyH_take (i := 20) (oi := { dst := some 72, op := Op.indexAddr 35 (Operand.tmp 70) (Operand.tmp 71), type := 0, pos := "law.go:100", after := #[{ on := 18, ground := Ground.data }, { on := 19, ground := Ground.data }, { on := 16, ground := Ground.guard }], guard := some (16, false) }) (v := ?_) rfl (by kernel_rfl) (by kernel_rfl) (by kernel_rfl) (fun _ _ _ h => h) (Or.inl ⟨by rfl, ?_⟩) hHeld ?_
              rotate_left
              · intro w hSw; (try dsimp only at hSw); go_simp; try with_reducible rfl
              try simp only [Act.put, List.setIfInBounds_toArray, List.set_cons_zero, List.set_cons_succ]
              refine wpAnyH_take (i := 21) (oi := { dst := some 73, op := Op.fieldAddr 40 (Operand.tmp 72) 1, type := 0, pos := "law.go:100", after := #[{ on := 20, ground := Ground.data }, { on := 16, ground := Ground.guard }], guard := some (16, false) }) (v := ?_) rfl (by kernel_rfl) (by kernel_rfl) (by kernel_rfl) (fun _ _ _ h => h) (Or.inl ⟨by rfl, ?_⟩) hHeld ?_
              rotate_left
              · intro w hSw; (try dsimp only at hSw); go_simp; try with_reducible rfl
              try simp only [Act.put, List.setIfInBounds_toArray, List.set_cons_zero, List.set_cons_succ]
              refine wpAnyH_take (i := 22) (oi := { dst := some 74, op := Op.load 22 (Operand.tmp 73), type := 22, pos := "law.go:100", after := #[{ on := 21, ground := Ground.data }, { on := 16, ground := Ground.guard }], guard := some (16, false) }) (v := ?_) rfl (by kernel_rfl) (by kernel_rfl) (by kernel_rfl) (fun _ _ _ h => h) (Or.inl ⟨by rfl, ?_⟩) hHeld ?_
              rotate_left
              · intro w hSw; (try dsimp only at hSw); go_simp; try with_reducible rfl
              try simp only [Act.put, List.setIfInBounds_toArray, List.set_cons_zero, List.set_cons_succ]
              refine wpAnyH_take (i := 24) (oi := { dst := some 76, op := Op.move (Operand.tmp 5), type := 35, pos := "law.go:100", after := #[{ on := 16, ground := Ground.guard }], guard := some (16, false) }) (v := ?_) rfl (by kernel_rfl) (by kernel_rfl) (by kernel_rfl) (fun _ _ _ h => h) (Or.inl ⟨by rfl, ?_⟩) hHeld ?_
              rotate_left
              · intro w hSw; (try dsimp only at hSw); go_simp; try with_reducible rfl
              try simp only [Act.put, List.setIfInBounds_toArray, List.set_cons_zero, List.set_cons_succ]
              refine wpAnyH_take (i := 25) (oi := { dst := some 77, op := Op.move (Operand.tmp 9), type := 3, pos := "law.go:100", after := #[{ on := 16, ground := Ground.guard }], guard := some (16, false) }) (v := ?_) rfl (by kernel_rfl) (by kernel_rfl) (by kernel_rfl) (fun _ _ _ h => h) (Or.inl ⟨by rfl, ?_⟩) hHeld ?_
              rotate_left
              · intro w hSw; (try dsimp only at hSw); go_simp; try with_reducible rfl
              try simp only [Act.put, List.setIfInBounds_toArray, List.set_cons_zero, List.set_cons_succ]
              refine wpAnyH_take (i := 26) (oi := { dst := some 78, op := Op.indexAddr 35 (Operand.tmp 76) (Operand.tmp 77), type := 0, pos := "law.go:100", after := #[{ on := 24, ground := Ground.data }, { on := 25, ground := Ground.data }, { on := 16, ground := Ground.guard }], guard := some (16, false) }) (v := ?_) rfl (by kernel_rfl) (by kernel_rfl) (by kernel_rfl) (fun _ _ _ h => h) (Or.inl ⟨by rfl, ?_⟩) hHeld ?_
              rotate_left
              · intro w hSw; (try dsimp only at hSw); go_simp; try with_reducible rfl
              try simp only [Act.put, List.setIfInBounds_toArray, List.set_cons_zero, List.set_cons_succ]
              refine wpAnyH_take (i := 27) (oi := { dst := some 79, op := Op.fieldAddr 40 (Operand.tmp 78) 1, type := 0, pos := "law.go:100", after := #[{ on := 26, ground := Ground.data }, { on := 16, ground := Ground.guard }], guard := some (16, false) }) (v := ?_) rfl (by kernel_rfl) (by kernel_rfl) (by kernel_rfl) (fun _ _ _ h => h) (Or.inl ⟨by rfl, ?_⟩) hHeld ?_
              rotate_left
              · intro w hSw; (try dsimp only at hSw); go_simp; try with_reducible rfl
              try simp only [Act.put, List.setIfInBounds_toArray, List.set_cons_zero, List.set_cons_succ]
              refine wpAnyH_take (i := 28) (oi := { dst := some 80, op := Op.load 22 (Operand.tmp 79), type := 22, pos := "law.go:100", after := #[{ on := 27, ground := Ground.data }, { on := 16, ground := Ground.guard }], guard := some (16, false) }) (v := ?_) rfl (by kernel_rfl) (by kernel_rfl) (by kernel_rfl) (fun _ _ _ h => h) (Or.inl ⟨by rfl, ?_⟩) hHeld ?_
              rotate_left
              · intro w hSw; (try dsimp only at hSw); go_simp; try with_reducible rfl
              try simp only [Act.put, List.setIfInBounds_toArray, List.set_cons_zero, List.set_cons_succ]
              refine wpAnyH_ready (rs := [23]) (by kernel_rfl) (by simp) ?_
              refine AllReadyH.cons (o := { dst := some 75, op := Op.call { callee := Callee.value (Operand.func 23), args := #[Operand.tmp 69, Operand.tmp 74], argTypes := #[35, 22] }, type := 22, pos := "law.go:100", after := #[{ on := 17, ground := Ground.data }, { on := 22, ground := Ground.data }, { on := 16, ground := Ground.chain }, { on := 16, ground := Ground.guard }], guard := some (16, false) }) rfl (fun K hK => ?_) AllReadyH.nil
              refine step_call_fn_if (by rfl) 23 #[.tmp 69, .tmp 74] #[35, 22] (by rfl) callAp #[.slice (some ⟨lb, lo, none⟩) n lc, yt] (by simp [go_sem]; exact HN.out.symm) ?_
              refine Calls.mono (CA.out _ (Below.refl _ _).drew) ?_
              rintro e w9 ⟨v9, rfl, h9, b9⟩
              refine ⟨_, rfl, ?_⟩
              have B9 := Lib.hid ((Below.refl wo.heap.size wo).drew.trans b9)
              have H9 := Lib.hid h9
              clear h9 b9
              refine hK.out _ _ ⟨B9.out, (B9.out.cell (p := ⟨lb, lo + j * 2 + 1, none⟩) hlb).trans c1, (B9.out.cell (p := ⟨lb, lo + i * 2, none⟩) hlb).trans cp, (B9.out.cell (p := ⟨lb, lo + j * 2, none⟩) hlb).trans c0⟩ (fun hHeld => ?_)
              clear hK K
              simp only [Act.put, List.setIfInBounds_toArray, List.set_cons_zero, List.set_cons_succ]
              refine wpAnyH_ready (rs := [29]) (by kernel_rfl) (by simp) ?_
              refine AllReadyH.cons (o := { dst := some 81, op := Op.call { callee := Callee.value (Operand.func 20), args := #[Operand.tmp 75, Operand.tmp 80], argTypes := #[22, 22] }, type := 4, pos := "law.go:100", after := #[{ on := 23, ground := Ground.data }, { on := 28, ground := Ground.data }, { on := 23, ground := Ground.chain }, { on := 16, ground := Ground.guard }], guard := some (16, false) }) rfl (fun K hK => ?_) AllReadyH.nil
              refine step_call_fn_if (by rfl) 20 #[.tmp 75, .tmp 80] #[22, 22] (by rfl) callSa #[v9, yt] (by simp [go_sem]) ?_
              refine Calls.mono (SM.out _ _ B9.out H9.out) ?_
              rintro e w10 ⟨rfl, b10⟩
              refine ⟨_, rfl, ?_⟩
              have B10 := Lib.hid (B9.out.trans (b10.mono B9.out.size))
              clear b10
              refine hK.out _ _ ⟨B10.out, (B10.out.cell (p := ⟨lb, lo + j * 2 + 1, none⟩) hlb).trans c1, (B10.out.cell (p := ⟨lb, lo + i * 2, none⟩) hlb).trans cp, (B10.out.cell (p := ⟨lb, lo + j * 2, none⟩) hlb).trans c0⟩ (fun hHeld => ?_)
              clear hK K
              simp only [Act.put, List.setIfInBounds_toArray, List.set_cons_zero, List.set_cons_succ]
              refine wpAnyH_take (i := 30) (oi := { dst := some 82, op := Op.unOp UnOp.not 4 (Operand.tmp 81), type := 4, pos := "law.go:100", after := #[{ on := 29, ground := Ground.data }, { on := 16, ground := Ground.guard }], guard := some (16, false) }) (v := ?_) rfl (by kernel_rfl) (by kernel_rfl) (by kernel_rfl) (fun _ _ _ h => h) (Or.inl ⟨by rfl, ?_⟩) hHeld ?_
              rotate_left
              · intro w hSw; (try dsimp only at hSw); go_simp; try with_reducible rfl
              try simp only [Act.put, List.setIfInBounds_toArray, List.set_cons_zero, List.set_cons_succ]
              refine wpAnyH_take (i := 31) (oi := { dst := some 83, op := Op.pick (Operand.tmp 68) (Operand.const (Value.bool true)) (Operand.tmp 82), type := 4, pos := "law.go:100", after := #[{ on := 16, ground := Ground.data }, { on := 30, ground := Ground.data }], guard := none }) (v := ?_) rfl (by kernel_rfl) (by kernel_rfl) (by kernel_rfl) (fun _ _ _ h => h) (Or.inl ⟨by rfl, ?_⟩) hHeld ?_
              rotate_left
              · intro w hSw; (try dsimp only at hSw); go_simp; try with_reducible rfl
              try simp only [Act.put, List.setIfInBounds_toArray, List.set_cons_zero, List.set_cons_succ]
              refine wpAnyH_done (by kernel_rfl) ?_ _
              have BN := Lib.hid (hB.out.trans (B10.out.mono hB.out.size))
              clear hHeld c1 c0 cp
              go_wp2
              go_roundw
              case rel => exact ⟨j + 1, by omega, by go_num, BN⟩
              case measure => simp [intOf]; omega
          · obtain rfl : j = n := by omega
            have t0 : decide ((j : Int) < (j : Int)) = false := by simp
            obtain ⟨m, hm⟩ : ∃ m, m = X.length := ⟨_, rfl⟩
            have bW := X8.out.trans (hB.out.mono X8.out.size)
            have SX := Lib.hid (fun W (h : Below wo.heap.size wo W) => ex_same _ _ X W (V8.out.below (hB.out.trans (h.mono hB.out.size))) (U8.out.below (hB.out.trans (h.mono hB.out.size))) (by omega))
            have E9 := Lib.hid (fun W (h : Below wo.heap.size wo W) => E.out W (B4.out.trans ((bW.trans (h.mono bW.size)).mono B4.out.size)))
            by_cases h4000 : 4000 < m
            · have t1 : decide ((4000 : Int) < (m : Int)) = true := by simp; omega
              rw [← hm] at SX ⊢
              clear hm bW
              go_wp2_with fail
              refine (SX.out wo (Below.refl _ _)).mono ?_
              rintro e w9 ⟨rfl, b9⟩
              have F := Lib.hid (E9.out w9 b9)
              clear b9 SX E9
              go_wp2
              first | go_ret | skip
              exact F.out
            · have t1 : decide ((4000 : Int) < (m : Int)) = false := by simp; omega
              obtain ⟨tx, sx, ux⟩ := UX.out (by omega)
              have U9 := Lib.hid (uy_out _ _ X X wo (V8.out.below hB.out) (U8.out.below hB.out) (by omega) (by omega) sx sx)
              have UXX := Lib.hid ux
              rw [← hm] at SX U9 ⊢
              clear hm bW tx sx ux
              go_wp2_with fail
              refine U9.out.mono ?_
              rintro e w9 ⟨c9, cs, mv, rfl, o9, g9, b9⟩
              obtain ⟨rfl, hcs⟩ := UXX.out.det o9
              have hcs0 : cs = [] := by
                cases cs with
                | nil => rfl
                | cons _ _ => simp [prs] at hcs
              subst hcs0
              obtain ⟨mq, mc, rfl⟩ := row_form g9.1
              have X9 := Lib.hid b9
              have S9 := Lib.hid (SX.out w9 b9)
              clear o9 g9 b9 hcs U9 SX
              go_wp2_with fail
              refine S9.out.mono ?_
              rintro e w10 ⟨rfl, b10⟩
              have F := Lib.hid (E9.out w10 (X9.out.trans (b10.mono X9.out.size)))
              clear b10 S9 E9
              go_wp2
              first | go_ret | skip
              exact F.out
      · have hnil := ln3 hc0
        have hb0 : bs = [] := by simpa [prs] using hnil
        subst hb0
        subst elv
        have t1 : (c4 == 0) = false := by simpa using hc0
        have t2 : (c4 != 0) = true := by simpa using hc0
        have F := Lib.hid (E.out _ B4.out)
        clear o4 g4 b4 U1 ln1 ln2 ln3 hnil hc0
        go_wp2
        first | go_ret | skip
        exact F.out
end Go.Proofs.YtncifeeinogcnaaGreatDoor
