/- The law's walk: parts of an arrow are what it was made of. -/
import Derived.Test.YtncifeeinogcnaaDoorKn39
import Derived.Test.YtncifeeinogcnaaDoorKn35
set_option maxRecDepth 100000
namespace Go.Proofs.YtncifeeinogcnaaDoor
open Go.Shelf Go.RowKit Go.Lib Go.Sort Go.Maps Go.Proofs.TreeMath Go.Proofs.LexMath

/-- One copy of nodes: what the append wants. -/
theorem src_nodes {w : World} {q : Option Addr} {c : Nat} {L : List Nd} {l : Nat} (hl : l = L.length) (h : NodesAt w (.slice q L.length c) L) : l ≠ 0 → ∃ ad, q = some ad ∧ ∀ j u, (nodeCells L)[j]? = some u → w.cell? (ad.add j) = some u := by
  intro h0
  obtain ⟨_, p, c', e, _, _, h4⟩ := h
  simp only [Value.slice.injEq] at e
  obtain ⟨rfl, -, -⟩ := e
  obtain ⟨b, o, rfl, _, hc⟩ := h4 (by omega)
  exact ⟨_, rfl, hc.at⟩
set_option maxHeartbeats 8000000 in
theorem parts_walk (lv tv : Value) (Ls : List (List Nd)) (tl : List Nd) (w : World) (hL : ListsAt w lv Ls) (ht : NodesAt w tv tl) (HT : TabW w) : Calls Tryd.prog 4 #[lv, tv] w (RBt w) := by
  obtain ⟨i0, hi, hz0, hz1, hz2⟩ := infoSl
  have HI := Lib.hid (And.intro hi (And.intro hz0 (And.intro hz1 hz2)))
  obtain ⟨j0, hj, hj0, hj1, hj2⟩ := infoNode
  have HJ := Lib.hid (And.intro hj (And.intro hj0 (And.intro hj1 hj2)))
  clear hi hz0 hz1 hz2 hj hj0 hj1 hj2
  have AW := Lib.hid (fun w' (h : Below w.heap.size w w') => awake10_any w' (HT.after h))
  have E : Hid (∀ w', Below w.heap.size w w' → RBt w (.returned (.bool true)) w') := Lib.hid fun w' h => ⟨rfl, h⟩
  have FT := Lib.hid (fun w' (h : Below w.heap.size w w') => few_any tv tl w' (ht.below h))
  have H1 := Lib.hid hL
  have H2 := Lib.hid ht
  obtain ⟨lq, lc, rfl⟩ := hL.form
  obtain ⟨tq, tc, rfl⟩ := nodes_form' ht
  obtain ⟨n, hn⟩ : ∃ n, n = Ls.length := ⟨_, rfl⟩
  obtain ⟨m, hm⟩ : ∃ m, m = tl.length := ⟨_, rfl⟩
  have HN := Lib.hid hn
  have HM := Lib.hid hm
  rw [← hm] at FT
  rw [← hn, ← hm]
  generalize RBt w = Z at E ⊢
  clear hL ht HT hn hm
  by_cases h10 : 10 < n
  · have t1 : decide ((10 : Int) < (n : Int)) = true := decide_eq_true (by omega)
    go_enter Tryd.func4, Tryd.ntmps4
    go_wp2_with fail
    refine (AW.out w (Below.refl _ _)).mono ?_
    rintro e w1 ⟨rfl, b1⟩
    have B1 := Lib.hid b1
    clear b1
    go_wp2_with fail
    refine (AW.out w1 B1.out).mono ?_
    rintro e w3 ⟨rfl, b3⟩
    have F := Lib.hid (E.out _ (B1.out.trans (b3.mono B1.out.size)))
    clear b3
    go_wp2
    first | go_ret | skip
    exact F.out
  have t1 : decide ((10 : Int) < (n : Int)) = false := decide_eq_false (by omega)
  cases fa : fewB tl with
  | false =>
    rw [fa] at FT
    go_enter Tryd.func4, Tryd.ntmps4
    go_wp2_with fail
    refine (AW.out w (Below.refl _ _)).mono ?_
    rintro e w1 ⟨rfl, b1⟩
    have B1 := Lib.hid b1
    clear b1
    go_wp2_with fail
    refine (FT.out w1 B1.out).mono ?_
    rintro e w2 ⟨rfl, rfl⟩
    go_wp2_with fail
    refine (AW.out w1 B1.out).mono ?_
    rintro e w3 ⟨rfl, b3⟩
    have F := Lib.hid (E.out _ (B1.out.trans (b3.mono B1.out.size)))
    clear b3
    go_wp2
    first | go_ret | skip
    exact F.out
  | true =>
    obtain ⟨l60, st⟩ := fewB_small fa
    rw [fa] at FT
    have ST60 := Lib.hid (And.intro l60 st)
    have m60 : m ≤ 60 := by rw [HM.out]; exact l60
    have CK := Lib.hid (fun W v (hW : NodesAt W v tl) => check_any v tl W hW (by omega) st)
    unfold CkP at CK
    have SRC2 : Hid (∀ W, Below w.heap.size w W → m ≠ 0 → ∃ ad, tq = some ad ∧ ∀ j u, (nodeCells tl)[j]? = some u → W.cell? (ad.add j) = some u) := Lib.hid fun W hW => src_nodes HM.out (H2.out.below hW)
    have ML : Hid ((nodeCells tl).length = m * 4) := Lib.hid (by rw [length_nodeCells, ← HM.out])
    have HK2 : Hid (0 + m ≤ maxLen ∧ (0 + m) * 40 ≤ 140737488355328) := Lib.hid (by constructor; unfold maxLen; omega; omega)
    clear l60 st fa
    go_enter Tryd.func4, Tryd.ntmps4
    go_wp2_with fail
    refine (AW.out w (Below.refl _ _)).mono ?_
    rintro e w1 ⟨rfl, b1⟩
    have B1 := Lib.hid b1
    clear b1
    go_wp2_with fail
    refine (FT.out w1 B1.out).mono ?_
    rintro e w2 ⟨rfl, rfl⟩
    have BE1 : Hid (Below w.heap.size w (w1.alloc (.cells #[] 42))) := Lib.hid (B1.out.trans ((box_keep _).mono B1.out.size))
    clear FT
    go_wp2_with ((at_builtin; refine wpList_append_if _ (by rfl) _ _ 36 rfl w1.heap.size 42 j0 zeroNode 4 40 Tryd.underlying36 HJ.out.1 HJ.out.2.1 HJ.out.2.2.1 HJ.out.2.2.2 rfl (by decide) (.slice (some ⟨w1.heap.size, 0, none⟩) 0 0) 0 [] rfl (World.ownsRow_made w1 #[] 0 (Nat.le_refl _) (Nat.zero_le _) rfl) tq m tc (nodeCells tl) rfl ML.out (SRC2.out _ BE1.out) (nodeCells_one _) HK2.out.1 HK2.out.2 (by simp) ?_; intro p2 cap2 w3 hown hgrow hblk; rw [Nat.zero_add] at hown; simp only [Nat.zero_add]; have R2 := Lib.hid hown; have B3 := Lib.hid (BE1.out.grown hgrow BE1.out.size fun g e => (by (simp [Value.ownBlock] at e; have := B1.out.size; omega))); clear hown hgrow hblk))
    have T3 : NodesAt w3 (.slice p2 m cap2) tl := by
      have := SliceAt.of_owns R2.out
      unfold NodesAt
      rw [← HM.out]
      exact this
    have C4 := Lib.hid (CK.out w3 _ T3)
    clear R2 T3
    cases ty : tyB tl with
    | false =>
      rw [ty, if_neg (by decide)] at C4
      go_wp2_with fail
      refine C4.out.mono ?_
      rintro e w4 ⟨rfl, b4⟩
      have B4 := Lib.hid (B3.out.trans (b4.mono B3.out.size))
      clear b4 C4
      go_wp2_with fail
      refine (AW.out w4 B4.out).mono ?_
      rintro e w5 ⟨rfl, b5⟩
      have F := Lib.hid (E.out _ (B4.out.trans (b5.mono B4.out.size)))
      clear b5
      go_wp2
      first | go_ret | skip
      exact F.out
    | true =>
      rw [ty, if_pos rfl] at C4
      have TYT := Lib.hid ty
      obtain ⟨b, o, c, e, hb, _, ntx, _, _⟩ := node_cell H2.out 0 (by have := tyB_pos ty; omega)
      simp only [Value.slice.injEq] at e
      obtain ⟨rfl, -, -⟩ := e
      have hm1 : 0 < m := by rw [HM.out]; exact tyB_pos ty
      obtain ⟨tx, htx⟩ : ∃ tx, tx = (tl.getD 0 default).text := ⟨_, rfl⟩
      rw [← htx, Nat.zero_mul, Nat.add_zero] at ntx
      have HTX := Lib.hid htx
      have NTX := Lib.hid ntx
      have HBO := Lib.hid hb
      clear ty htx ntx hb
      go_wp2_with fail
      refine C4.out.mono ?_
      rintro e w4 ⟨rfl, b4⟩
      have B4 := Lib.hid (B3.out.trans (b4.mono B3.out.size))
      have x1 := (B4.out.cell (p := ⟨b, o + 1, none⟩) HBO.out).trans NTX.out
      clear b4 C4
      by_cases ha : tx = ⟨#[45, 62]⟩
      · subst ha
        go_wp2_with fail
        refine (AW.out w4 B4.out).mono ?_
        rintro e w5 ⟨rfl, b5⟩
        have F := Lib.hid (E.out _ (B4.out.trans (b5.mono B4.out.size)))
        clear b5
        go_wp2
        first | go_ret | skip
        exact F.out
      · have u1 := str_ne ha
        have u2 := str_ne' ha
        have e3 : (⟨#[45, 62]⟩ : ByteArray).toList = [45, 62] := by simp [ByteArray.toList_eq]
        rw [e3] at u1 u2
        clear e3
        have NAR : Hid ((tl.getD 0 default).text ≠ sArrow) := Lib.hid (by rw [← HTX.out]; exact ha)
        clear ha AW
        go_wp2
        clear x1
        go_loopw [5] (fun s5 wr => ∃ i : Nat, i ≤ n ∧ s5 = .int .i64 i ∧ Hid (Below w.heap.size w wr) ∧ Hid (∀ L ∈ Ls.take i, fewB L = true ∧ tyB L = true)) (fun s5 _ => n - (intOf s5).toNat)
        case atStart => exact ⟨0, Nat.zero_le _, rfl, B4, Lib.hid fun L hL => by simp at hL⟩
        case round =>
          obtain ⟨wo, hwo⟩ : ∃ wo : World, wo = wr := ⟨_, rfl⟩
          subst hwo
          obtain ⟨i, hi, rfl, hB, hF⟩ := hrel
          by_cases hlt : i < n
          · have k2 : ((i : Int) < (n : Int)) := by omega
            obtain ⟨b1, off, c1, qa, ca, e1, hb1, x0, na⟩ := lists_cell H1.out i (by rw [← HN.out]; exact hlt)
            simp only [Value.slice.injEq] at e1
            obtain ⟨rfl, -, -⟩ := e1
            have c0 := (hB.out.cell (p := ⟨b1, off + i, none⟩) hb1).trans x0
            have NXT : Hid (fewB (Ls.getD i []) = true ∧ tyB (Ls.getD i []) = true → ∀ L ∈ Ls.take (i + 1), fewB L = true ∧ tyB L = true) := Lib.hid fun h => all_take_succ (α := List Nd) _ Ls i (by rw [← HN.out]; exact hlt) hF.out h
            obtain ⟨L, hLd⟩ : ∃ L, L = Ls.getD i [] := ⟨_, rfl⟩
            rw [← hLd] at c0 na NXT x0
            have FW := Lib.hid (few_any _ _ wo (na.below hB.out))
            have NA := Lib.hid na
            obtain ⟨la, hla⟩ : ∃ l, l = L.length := ⟨_, rfl⟩
            rw [← hla] at FW c0 x0
            have HLA := Lib.hid hla
            have X0 := Lib.hid x0
            have HB1 := Lib.hid hb1
            have F0 := Lib.hid (E.out _ hB.out)
            have BO := Lib.hid hB.out
            clear hLd na hb1 x0 hF hB
            cases fb : fewB L with
            | false =>
              rw [fb] at FW
              clear NXT hla
              go_wp2_with fail
              refine FW.out.mono ?_
              rintro e w2 ⟨rfl, rfl⟩
              go_wp2
              first | go_ret | skip
              exact F0.out
            | true =>
              rw [fb] at FW NXT
              obtain ⟨l60, st⟩ := fewB_small fb
              have la60 : la ≤ 60 := by rw [hla]; exact l60
              have SRC : Hid (∀ W, Below wo.heap.size wo W → la ≠ 0 → ∃ ad, qa = some ad ∧ ∀ j u, (nodeCells L)[j]? = some u → W.cell? (ad.add j) = some u) := Lib.hid fun W hW => src_nodes hla (by have := (NA.out.below BO.out).below hW; rw [← hla] at this ⊢; exact this)
              have MLL : Hid ((nodeCells L).length = la * 4) := Lib.hid (by rw [length_nodeCells, ← hla])
              have HK : Hid (0 + la ≤ maxLen ∧ (0 + la) * 40 ≤ 140737488355328) := Lib.hid (by constructor; unfold maxLen; omega; omega)
              have CKL := Lib.hid (fun W v (hW : NodesAt W v L) => check_any v L W hW (by omega) st)
              unfold CkP at CKL
              clear l60 st fb hla
              go_wp2_with fail
              refine FW.out.mono ?_
              rintro e w2 ⟨rfl, rfl⟩
              have BEo : Hid (Below wo.heap.size wo (wo.alloc (.cells #[] 42))) := Lib.hid (box_keep _)
              have c1 : (wo.alloc (.cells #[] 42)).cell? ⟨b1, off + i, none⟩ = some (.slice qa la ca) := (BEo.out.cell (p := ⟨b1, off + i, none⟩) (Nat.lt_of_lt_of_le HB1.out BO.out.size)).trans c0
              clear c0
              go_wp2_with ((at_builtin; refine wpList_append_if _ (by rfl) _ _ 36 rfl wo.heap.size 42 j0 zeroNode 4 40 Tryd.underlying36 HJ.out.1 HJ.out.2.1 HJ.out.2.2.1 HJ.out.2.2.2 rfl (by decide) (.slice (some ⟨wo.heap.size, 0, none⟩) 0 0) 0 [] rfl (World.ownsRow_made wo #[] 0 (Nat.le_refl _) (Nat.zero_le _) rfl) qa la ca (nodeCells L) rfl MLL.out (SRC.out _ BEo.out) (nodeCells_one _) HK.out.1 HK.out.2 (by simp) ?_; intro p5 cap5 w5 hown hgrow hblk; rw [Nat.zero_add] at hown; simp only [Nat.zero_add]; have R5 := Lib.hid hown; have B5 := Lib.hid (BEo.out.grown hgrow BEo.out.size fun g e => (by (simp [Value.ownBlock] at e; omega))); clear hown hgrow hblk))
              have T5 : NodesAt w5 (.slice p5 la cap5) L := by
                have := SliceAt.of_owns R5.out
                unfold NodesAt
                rw [← HLA.out]
                exact this
              have C6 := Lib.hid (CKL.out w5 _ T5)
              have B5w := Lib.hid (BO.out.trans (B5.out.mono BO.out.size))
              clear R5 T5 SRC CKL FW
              cases tyl : tyB L with
              | false =>
                rw [tyl, if_neg (by decide)] at C6
                clear NXT
                go_wp2_with fail
                refine C6.out.mono ?_
                rintro e w6 ⟨rfl, b6⟩
                have F := Lib.hid (E.out _ (B5w.out.trans (b6.mono B5w.out.size)))
                clear b6
                go_wp2
                first | go_ret | skip
                exact F.out
              | true =>
                rw [tyl, if_pos rfl] at C6
                have G := Lib.hid (NXT.out ⟨by first | trivial | rfl, tyl⟩)
                clear NXT tyl
                go_wp2_with fail
                refine C6.out.mono ?_
                rintro e w6 ⟨rfl, b6⟩
                have B6 := Lib.hid (B5w.out.trans (b6.mono B5w.out.size))
                clear b6 C6
                go_wp2
                go_roundw
                case rel => exact ⟨i + 1, hlt, by go_num, B6, G⟩
                case measure => simp [intOf]; omega
          · obtain rfl : i = n := by omega
            have FA : ∀ L ∈ Ls, fewB L = true ∧ tyB L = true := by have := hF.out; rwa [List.take_of_length_le (by rw [← HN.out]; exact Nat.le_refl _)] at this
            have hX : (arrN Ls tl).length ≤ 670 := by
              have := arrN_len Ls tl fun L hL => (fewB_small (FA L hL).1).1
              have h1 := HN.out
              have h2 := ST60.out.1
              omega
            have sX : SmallN (arrN Ls tl) := arrN_small Ls tl (fun L hL => (fewB_small (FA L hL).1).2) ST60.out.2
            have tX : tyB (arrN Ls tl) = true := tyB_arr (fun L hL => (FA L hL).2) TYT.out (by omega)
            have FAH := Lib.hid FA
            have BO := Lib.hid hB.out
            obtain ⟨vs, ⟨hvl, p9, c9, e9, _, _, hsrc⟩, hvs⟩ := H1.out
            have SL0 := Lib.hid (show SliceAt w 1 (.slice lq Ls.length lc) Ls.length vs from ⟨hvl, p9, c9, e9, by assumption, by assumption, hsrc⟩)
            simp only [Value.slice.injEq] at e9
            obtain ⟨rfl, -, rfl⟩ := e9
            have HVL := Lib.hid (show vs.length = i * 1 by rw [hvl, HN.out])
            have SRC1 : Hid (∀ W, Below w.heap.size w W → i ≠ 0 → ∃ ad, lq = some ad ∧ ∀ j u, vs[j]? = some u → W.cell? (ad.add j) = some u) := Lib.hid fun W hW h0 => by
              obtain ⟨b9, o9, rfl, hb9, hc9⟩ := hsrc (by rw [← HN.out]; exact h0)
              exact ⟨_, rfl, (hc9.kept (hW.block b9 hb9)).at⟩
            have ONE1 : Hid (∀ u ∈ vs, u.oneCell' = true) := Lib.hid fun u hu => by
              obtain ⟨k, hk, rfl⟩ := List.getElem_of_mem hu
              have := hvs k (by have := HVL.out; have := HN.out; omega)
              obtain ⟨q0, c0, e0⟩ := nodes_form' this
              rw [List.getD_eq_getElem?_getD, List.getElem?_eq_getElem hk] at e0
              simp only [Option.getD_some] at e0
              rw [e0]; rfl
            have HX := Lib.hid (And.intro hX (And.intro sX tX))
            have BE : Hid (Below w.heap.size w (wo.alloc (.cells #[] 36))) := Lib.hid (BO.out.trans ((box_keep _).mono BO.out.size))
            have HK1 : Hid (0 + i ≤ maxLen ∧ (0 + i) * 24 ≤ 140737488355328) := Lib.hid (by constructor; unfold maxLen; omega; omega)
            have i10 : i ≤ 10 := by omega
            clear hvl hsrc hvs hX sX tX FA hF hB h10 t1
            go_wp2_with ((at_builtin; first
              | (refine wpList_append_any _ rfl _ _ 31 rfl wo.heap.size 36 i0 (.slice none 0 0) 1 24 Tryd.underlying31 HI.out.1 HI.out.2.1 HI.out.2.2.1 HI.out.2.2.2 rfl (by decide) (.slice (some ⟨wo.heap.size, 0, none⟩) 0 0) 0 [] rfl (World.ownsRow_made wo #[] 0 (Nat.le_refl _) (Nat.zero_le _) rfl) lq i lc vs rfl HVL.out (SRC1.out _ BE.out) ONE1.out HK1.out.1 HK1.out.2 (by simp) ?_; intro p1 cap1 w2 hown hgrow hblk; rw [Nat.zero_add] at hown; simp only [Nat.zero_add]; have R1 := Lib.hid hown; have B2 := Lib.hid (BE.out.grown hgrow BE.out.size fun g e => by (simp [Value.ownBlock] at e; have := BO.out.size; omega)); have BE2 := Lib.hid (B2.out.trans ((box_keep (W := w2) (.cells #[] 42)).mono B2.out.size)); clear hown hgrow hblk)
              | (refine wpList_append_any _ rfl _ _ 36 rfl w2.heap.size 42 j0 zeroNode 4 40 Tryd.underlying36 HJ.out.1 HJ.out.2.1 HJ.out.2.2.1 HJ.out.2.2.2 rfl (by decide) (.slice (some ⟨w2.heap.size, 0, none⟩) 0 0) 0 [] rfl (World.ownsRow_made w2 #[] 0 (Nat.le_refl _) (Nat.zero_le _) rfl) (some ⟨b, o, none⟩) m tc (nodeCells tl) rfl ML.out (SRC2.out _ BE2.out) (nodeCells_one _) HK2.out.1 HK2.out.2 (by simp) ?_; intro p2 cap2 w3 hown hgrow hblk; rw [Nat.zero_add] at hown; simp only [Nat.zero_add]; have R2 := Lib.hid hown; have B3 := Lib.hid ((box_keep (W := w2) (.cells #[] 42)).grown hgrow (by simp) fun g e => by (simp [Value.ownBlock] at e; omega)); clear hown hgrow hblk)))
            have L2 := lists_row H1.out (fun vs' h => slice_same SL0.out (by rw [HN.out] at *; exact h)) (show _ from (by rw [← HN.out]; exact R1.out)) B2.out
            have B3w := Lib.hid (B2.out.trans (B3.out.mono B2.out.size))
            have L3 := L2.below B3.out
            have T3 : NodesAt w3 (.slice p2 m cap2) tl := by
              have := SliceAt.of_owns R2.out
              unfold NodesAt
              rw [← HM.out]
              exact this
            have C4 := Lib.hid (arrow_any _ _ Ls tl w3 L3 T3 (by have := HX.out.1; omega))
            clear L2 L3 T3
            go_wp2_with fail
            refine C4.out.mono ?_
            rintro e w4 ⟨v4, rfl, r4, b4⟩
            have B4 := Lib.hid (B3w.out.trans (b4.mono B3w.out.size))
            have C6 := Lib.hid (parts_any v4 (arrN Ls tl) w4 (SliceAt.of_owns r4) (by have := HX.out.1; omega) HX.out.2.1)
            clear b4 r4 C4 R1 R2
            go_wp2_with fail
            refine C6.out.mono ?_
            rintro e w6 ⟨pa, pb, rfl, b6, hcase⟩
            have B6 := Lib.hid (B4.out.trans (b6.mono B4.out.size))
            have CASE := Lib.hid hcase
            clear b6 hcase C6
            rcases CASE.out with ⟨hno, _, _⟩ | ⟨t, L, r, hg, hf, hp, hl6, hr6⟩
            · exact absurd hno (by rw [HX.out.2.2]; decide)
            obtain ⟨eL, eR⟩ := pt_arr tl NAR.out Ls t L r (fun l hl => (FAH.out l hl).2) hg hf hp
            rw [eL] at hl6
            rw [eR] at hr6
            have C7 := Lib.hid (types_any pa (.slice lq i lc) Ls Ls w6 hl6 (by have := H1.out.below B6.out; rw [← HN.out] at this; exact this) (by rw [← HN.out]; omega) (fun x hx => by have := (fewB_small (FAH.out x hx).1).1; omega))
            rw [decide_eq_true rfl] at C7
            have NB := Lib.hid hr6
            have C8 := Lib.hid (fun W (hW : Below w6.heap.size w6 W) => ex_same pb (.slice (some ⟨b, o, none⟩) m tc) tl W (NB.out.below hW) (by have := H2.out.below (B6.out.trans (hW.mono B6.out.size)); rw [← HM.out] at this; exact this) (by rw [← HM.out]; omega))
            obtain ⟨paq, pac, rfl⟩ := hl6.form
            obtain ⟨pbq, pbc, rfl⟩ := nodes_form' hr6
            clear hg hf hp hl6 hr6 eL eR CASE
            go_wp2_with fail
            refine C7.out.mono ?_
            rintro e w7 ⟨rfl, b7⟩
            have B7 := Lib.hid (B6.out.trans (b7.mono B6.out.size))
            have C9 := Lib.hid (C8.out w7 b7)
            clear b7 C7 C8
            go_wp2_with fail
            refine C9.out.mono ?_
            rintro e w8 ⟨rfl, b8⟩
            have F := Lib.hid (E.out _ (B7.out.trans (b8.mono B7.out.size)))
            clear b8 C9
            go_wp2
            first | go_ret | skip
            exact F.out
end Go.Proofs.YtncifeeinogcnaaDoor
