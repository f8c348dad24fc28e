/- Texts of this seat, one behind the other: DaW. -/
import Derived.Test.YtncifeeinogcnaaGreatDoorKn42
import Derived.Test.YtncifeeinogcnaaGreatDoorKn45
import Derived.Test.YtncifeeinogcnaaGreatDoorKn27
import Derived.Test.YtncifeeinogcnaaGreatDoorKn44
import Derived.Test.YtncifeeinogcnaaGreatDoorKn22
/- The law's walk: the type of a function, and its parts. -/
set_option maxRecDepth 100000
namespace Go.Proofs.YtncifeeinogcnaaGreatDoor
open Go.Shelf Go.RowKit Go.Lib Go.Sort Go.Maps Go.Proofs.TreeMath Go.Proofs.LexMath

theorem arrN_len (Ls : List (List Nd)) (tl : List Nd) (h : ∀ L ∈ Ls, L.length ≤ 60) : (arrN Ls tl).length ≤ Ls.length * 61 + tl.length := by
  unfold arrN
  rw [List.length_append]
  have : (arrL Ls).length ≤ Ls.length * 61 := by
    unfold arrL
    induction Ls with
    | nil => simp
    | cons L Ls ih =>
      have h1 := ih fun L hL => h L (List.mem_cons_of_mem _ hL)
      have h2 := h L (List.mem_cons_self ..)
      rw [List.flatMap_cons, List.length_append, List.length_cons, List.length_cons]
      omega
  omega
theorem arrN_small (Ls : List (List Nd)) (tl : List Nd) (h : ∀ L ∈ Ls, SmallN L) (ht : SmallN tl) : SmallN (arrN Ls tl) := by
  intro f hf
  unfold arrN arrL at hf
  rcases List.mem_append.1 hf with hf | hf
  · obtain ⟨L, hL, hm⟩ := List.mem_flatMap.1 hf
    rcases List.mem_cons.1 hm with rfl | hm
    · show arrH.text.size ≤ 100000000; decide
    · exact h L hL f hm
  · exact ht f hf
theorem Pt.inv2 {t : T} {L : List T} {r : T} (h : Pt t L r) : (t.1.text ≠ sArrow ∧ L = [] ∧ r = t) ∨ (∃ n a b L', t = (n, .cons a.1 a.2 (.cons b.1 b.2 .nil)) ∧ n.text = sArrow ∧ L = a :: L' ∧ Pt b L' r) := by
  cases h with
  | fin _ h => exact .inl ⟨h, rfl, rfl⟩
  | arr n a b L' r' ha hp => exact .inr ⟨n, a, b, L', rfl, ha, rfl, hp⟩
theorem Pt.mem_le {t : T} {L : List T} {r : T} (h : Pt t L r) : ∀ a ∈ L, szT a ≤ szT t := by
  induction h with
  | fin t _ => intro a ha; simp at ha
  | arr n a b L r _ _ ih =>
    intro x hx
    have e : szT (n, F.cons a.1 a.2 (.cons b.1 b.2 .nil)) = 1 + (szT a + szT b) := by unfold szT; simp only [F.sz]; omega
    rw [e]
    rcases List.mem_cons.1 hx with rfl | hx
    · omega
    · have := ih x hx
      omega
theorem Pt.last_le {t : T} {L : List T} {r : T} (h : Pt t L r) : szT r ≤ szT t := by
  induction h with
  | fin t _ => exact Nat.le_refl _
  | arr n a b L r _ _ ih =>
    have e : szT (n, F.cons a.1 a.2 (.cons b.1 b.2 .nil)) = 1 + (szT a + szT b) := by unfold szT; simp only [F.sz]; omega
    omega
theorem pt_det {t : T} {L : List T} {r : T} (h : Pt t L r) : ∀ {L' : List T} {r' : T}, Pt t L' r' → L = L' ∧ r = r' := by
  induction h with
  | fin t ha =>
    intro L' r' k
    rcases k.inv2 with ⟨_, rfl, rfl⟩ | ⟨n, a, b, L2, e, h, rfl, k2⟩
    · exact ⟨rfl, rfl⟩
    · subst e
      exact absurd h ha
  | arr n a b L r ha _ ih =>
    intro L' r' k
    rcases k.inv2 with ⟨h, _, _⟩ | ⟨n2, a2, b2, L2, e, _, rfl, k2⟩
    · exact absurd ha h
    · simp only [Prod.mk.injEq, F.cons.injEq, and_true] at e
      obtain ⟨_, h1, h2, h3, h4⟩ := e
      obtain rfl : a = a2 := Prod.ext h1 h2
      obtain rfl : b = b2 := Prod.ext h3 h4
      obtain ⟨rfl, rfl⟩ := ih k2
      exact ⟨rfl, rfl⟩
theorem tyB_of {t : T} (h : GT t) (hz : (flatT t).length ≤ 4000) : tyB (flatT t) = true := by
  unfold tyB
  simp only [Bool.and_eq_true, decide_eq_true_eq]
  exact ⟨⟨hz, whole_flat (.cons t.1 t.2 .nil) ⟨h.2.1, h.1, trivial⟩ rfl⟩, List.all_eq_true.2 h.2.2⟩
/-- A copy of a list of lists. -/
theorem lists_row {w w' : World} {B : Nat} {v u : Value} {Ls : List (List Nd)} {vs : List Value} (h : ListsAt w v Ls) (hv : ∀ vs', SliceAt w 1 v Ls.length vs' → vs' = vs) (hr : w'.ownsRow B 22 1 u Ls.length vs) (b : Below w.heap.size w w') : ListsAt w' u Ls := by
  obtain ⟨vs', hs, hp⟩ := h
  obtain rfl := hv vs' hs
  exact ⟨vs', SliceAt.of_owns hr, fun i hi => (hp i hi).below b⟩
theorem slice_same {w : World} {v : Value} {n : Nat} {vs vs' : List Value} (h : SliceAt w 1 v n vs) (h' : SliceAt w 1 v n vs') : vs' = vs := by
  obtain ⟨hl, p, c, rfl, _, _, hp⟩ := h
  obtain ⟨hl', p', c', e, _, _, hp'⟩ := h'
  simp only [Value.slice.injEq] at e
  obtain ⟨rfl, -, rfl⟩ := e
  refine List.ext_getElem (by omega) fun i h1 h2 => ?_
  obtain ⟨b, o, rfl, _, hc⟩ := hp (by omega)
  obtain ⟨b', o', e, _, hc'⟩ := hp' (by omega)
  simp only [Option.some.injEq, Addr.mk.injEq, and_true] at e
  obtain ⟨rfl, rfl⟩ := e
  have x := hc i _ (List.getElem?_eq_getElem h2)
  have y := hc' i _ (List.getElem?_eq_getElem h1)
  rw [x] at y
  simpa using y.symm
set_option maxHeartbeats 4000000 in
theorem arrows_walk (lv tv : Value) (Ls : List (List Nd)) (tl : List Nd) (w : World) (hL : ListsAt w lv Ls) (ht : NodesAt w tv tl) (HT : TabW w) : Calls Tryz.prog 8 #[lv, tv] w (RBt w) := by
  obtain ⟨i0, hi, hz0, hz1, hz2⟩ := infoSl
  have HI := Lib.hid (And.intro hi (And.intro hz0 (And.intro hz1 hz2)))
  obtain ⟨j0, hj, hj0, hj1, hj2⟩ := infoNode
  have HJ := Lib.hid (And.intro hj (And.intro hj0 (And.intro hj1 hj2)))
  clear hi hz0 hz1 hz2 hj hj0 hj1 hj2
  have AW := Lib.hid (fun w' (h : Below w.heap.size w w') => awake10_any w' (HT.after h))
  have E : Hid (∀ w', Below w.heap.size w w' → RBt w (.returned (.bool true)) w') := Lib.hid fun w' h => ⟨rfl, h⟩
  have FT := Lib.hid (fun w' (h : Below w.heap.size w w') => few_any tv tl w' (ht.below h))
  have H1 := Lib.hid hL
  have H2 := Lib.hid ht
  obtain ⟨lq, lc, rfl⟩ := hL.form
  obtain ⟨tq, tc, rfl⟩ := nodes_form' ht
  obtain ⟨n, hn⟩ : ∃ n, n = Ls.length := ⟨_, rfl⟩
  obtain ⟨m, hm⟩ : ∃ m, m = tl.length := ⟨_, rfl⟩
  have HN := Lib.hid hn
  have HM := Lib.hid hm
  rw [← hm] at FT
  rw [← hn, ← hm]
  generalize RBt w = Z at E ⊢
  clear hL ht HT hn hm
  by_cases h10 : 10 < n
  · have t1 : decide ((10 : Int) < (n : Int)) = true := decide_eq_true (by omega)
    go_enter Tryz.func8, Tryz.ntmps8
    go_wp2_with fail
    refine (AW.out w (Below.refl _ _)).mono ?_
    rintro e w1 ⟨rfl, b1⟩
    have B1 := Lib.hid b1
    clear b1
    go_wp2_with fail
    refine (AW.out w1 B1.out).mono ?_
    rintro e w3 ⟨rfl, b3⟩
    have F := Lib.hid (E.out _ (B1.out.trans (b3.mono B1.out.size)))
    clear b3
    go_wp2
    first | go_ret | skip
    exact F.out
  · have t1 : decide ((10 : Int) < (n : Int)) = false := decide_eq_false (by omega)
    cases fa : fewB tl with
    | false =>
      rw [fa] at FT
      go_enter Tryz.func8, Tryz.ntmps8
      go_wp2_with fail
      refine (AW.out w (Below.refl _ _)).mono ?_
      rintro e w1 ⟨rfl, b1⟩
      have B1 := Lib.hid b1
      clear b1
      go_wp2_with fail
      refine (FT.out w1 B1.out).mono ?_
      rintro e w2 ⟨rfl, rfl⟩
      go_wp2_with fail
      refine (AW.out w1 B1.out).mono ?_
      rintro e w3 ⟨rfl, b3⟩
      have F := Lib.hid (E.out _ (B1.out.trans (b3.mono B1.out.size)))
      clear b3
      go_wp2
      first | go_ret | skip
      exact F.out
    | true =>
      obtain ⟨l60, st⟩ := fewB_small fa
      rw [fa] at FT
      have ST60 := Lib.hid (And.intro l60 st)
      clear l60 st fa
      go_enter Tryz.func8, Tryz.ntmps8
      go_wp2_with fail
      refine (AW.out w (Below.refl _ _)).mono ?_
      rintro e w1 ⟨rfl, b1⟩
      have B1 := Lib.hid b1
      clear b1
      go_wp2_with fail
      refine (FT.out w1 B1.out).mono ?_
      rintro e w2 ⟨rfl, rfl⟩
      clear FT AW
      go_wp2
      go_loopw [5] (fun s5 wr => ∃ i : Nat, i ≤ n ∧ s5 = .int .i64 i ∧ Hid (Below w.heap.size w wr) ∧ Hid (∀ L ∈ Ls.take i, fewB L = true)) (fun s5 _ => n - (intOf s5).toNat)
      case atStart => exact ⟨0, Nat.zero_le _, rfl, B1, Lib.hid fun L hL => by simp at hL⟩
      case round =>
        obtain ⟨wo, hwo⟩ : ∃ wo : World, wo = wr := ⟨_, rfl⟩
        subst hwo
        obtain ⟨i, hi, rfl, hB, hF⟩ := hrel
        by_cases hlt : i < n
        · have k2 : ((i : Int) < (n : Int)) := by omega
          obtain ⟨b, off, c, qa, ca, e1, hb, x0, na⟩ := lists_cell H1.out i (by rw [← HN.out]; exact hlt)
          simp only [Value.slice.injEq] at e1
          obtain ⟨rfl, -, -⟩ := e1
          have c0 := (hB.out.cell (p := ⟨b, off + i, none⟩) hb).trans x0
          have FW := Lib.hid (few_any _ _ wo (na.below hB.out))
          have TK := Lib.hid (show Ls.take (i + 1) = Ls.take i ++ [Ls.getD i []] by rw [List.take_succ_eq_append_getElem (by rw [← HN.out]; exact hlt), List.getD_eq_getElem?_getD, List.getElem?_eq_getElem (by rw [← HN.out]; exact hlt)]; rfl)
          obtain ⟨la, hla⟩ : ∃ l, l = (Ls.getD i []).length := ⟨_, rfl⟩
          rw [← hla] at FW c0
          clear hla na x0 hb
          cases fb : fewB (Ls.getD i []) with
          | false =>
            rw [fb] at FW
            have F := Lib.hid (E.out _ hB.out)
            clear hF TK hB
            go_wp2_with fail
            refine FW.out.mono ?_
            rintro e w2 ⟨rfl, rfl⟩
            go_wp2
            first | go_ret | skip
            exact F.out
          | true =>
            rw [fb] at FW
            have NF : Hid (∀ L ∈ Ls.take (i + 1), fewB L = true) := Lib.hid fun L hL => by
              rw [TK.out] at hL
              rcases List.mem_append.1 hL with h | h
              · exact hF.out L h
              · rw [List.mem_singleton] at h; rw [h]; exact fb
            clear hF TK fb
            go_wp2_with fail
            refine FW.out.mono ?_
            rintro e w2 ⟨rfl, rfl⟩
            go_wp2
            go_roundw
            case rel => exact ⟨i + 1, hlt, by go_num, hB, NF⟩
            case measure => simp [intOf]; omega
        · obtain rfl : i = n := by omega
          have FA : ∀ L ∈ Ls, fewB L = true := by have := hF.out; rwa [List.take_of_length_le (by rw [← HN.out]; exact Nat.le_refl _)] at this
          have hX : (arrN Ls tl).length ≤ 670 := by
            have := arrN_len Ls tl fun L hL => (fewB_small (FA L hL)).1
            have h1 := HN.out
            have h2 := ST60.out.1
            omega
          have sX : SmallN (arrN Ls tl) := arrN_small Ls tl (fun L hL => (fewB_small (FA L hL)).2) ST60.out.2
          have BO := Lib.hid hB.out
          have HM6 : Hid (m ≤ 60) := Lib.hid (by rw [HM.out]; exact ST60.out.1)
          obtain ⟨vs, ⟨hvl, p9, c9, e9, _, _, hsrc⟩, hvs⟩ := H1.out
          have SL0 := Lib.hid (show SliceAt w 1 (.slice lq Ls.length lc) Ls.length vs from ⟨hvl, p9, c9, e9, by assumption, by assumption, hsrc⟩)
          simp only [Value.slice.injEq] at e9
          obtain ⟨rfl, -, rfl⟩ := e9
          have HVL := Lib.hid (show vs.length = i * 1 by rw [hvl, HN.out])
          have SRC1 : Hid (∀ W, Below w.heap.size w W → i ≠ 0 → ∃ ad, lq = some ad ∧ ∀ j u, vs[j]? = some u → W.cell? (ad.add j) = some u) := Lib.hid fun W hW h0 => by
            obtain ⟨b9, o9, rfl, hb9, hc9⟩ := hsrc (by rw [← HN.out]; exact h0)
            exact ⟨_, rfl, (hc9.kept (hW.block b9 hb9)).at⟩
          have ONE1 : Hid (∀ u ∈ vs, u.oneCell' = true) := Lib.hid fun u hu => by
            obtain ⟨k, hk, rfl⟩ := List.getElem_of_mem hu
            have := hvs k (by have := HVL.out; have := HN.out; omega)
            obtain ⟨q0, c0, e0⟩ := nodes_form' this
            rw [List.getD_eq_getElem?_getD, List.getElem?_eq_getElem hk] at e0
            simp only [Option.getD_some] at e0
            rw [e0]; rfl
          have SRC2 : Hid (∀ W, Below w.heap.size w W → m ≠ 0 → ∃ ad, tq = some ad ∧ ∀ j u, (nodeCells tl)[j]? = some u → W.cell? (ad.add j) = some u) := Lib.hid fun W hW h0 => by
            obtain ⟨q', c', e', h'⟩ := src_of (H2.out.below hW)
            simp only [Value.slice.injEq] at e'
            rw [e'.1]
            exact h' (by rw [← HM.out]; exact h0)
          have ML : Hid ((nodeCells tl).length = m * 4) := Lib.hid (by rw [length_nodeCells, ← HM.out])
          have HX := Lib.hid (And.intro hX sX)
          have BE : Hid (Below w.heap.size w (wo.alloc (.cells #[] 22))) := Lib.hid (BO.out.trans ((box_keep _).mono BO.out.size))
          have HK1 : Hid (0 + i ≤ maxLen ∧ (0 + i) * 24 ≤ 140737488355328) := Lib.hid (by constructor; unfold maxLen; omega; omega)
          have HK2 : Hid (0 + m ≤ maxLen ∧ (0 + m) * 40 ≤ 140737488355328) := Lib.hid (by have := HM6.out; constructor; unfold maxLen; omega; omega)
          clear hvl hsrc hvs hX sX FA hF hB h10 t1
          go_wp2_with ((at_builtin; first
            | (refine wpList_append_any _ rfl _ _ 50 rfl wo.heap.size 22 i0 (.slice none 0 0) 1 24 Tryz.underlying50 HI.out.1 HI.out.2.1 HI.out.2.2.1 HI.out.2.2.2 rfl (by decide) (.slice (some ⟨wo.heap.size, 0, none⟩) 0 0) 0 [] rfl (World.ownsRow_made wo #[] 0 (Nat.le_refl _) (Nat.zero_le _) rfl) lq i lc vs rfl HVL.out (SRC1.out _ BE.out) ONE1.out HK1.out.1 HK1.out.2 (by simp) ?_; intro p1 cap1 w2 hown hgrow hblk; rw [Nat.zero_add] at hown; simp only [Nat.zero_add]; have R1 := Lib.hid hown; have B2 := Lib.hid (BE.out.grown hgrow BE.out.size fun g e => by (simp [Value.ownBlock] at e; have := BO.out.size; omega)); have BE2 := Lib.hid (B2.out.trans ((box_keep (W := w2) (.cells #[] 58)).mono B2.out.size)); clear hown hgrow hblk)
            | (refine wpList_append_any _ rfl _ _ 22 rfl w2.heap.size 58 j0 zeroNode 4 40 Tryz.underlying22 HJ.out.1 HJ.out.2.1 HJ.out.2.2.1 HJ.out.2.2.2 rfl (by decide) (.slice (some ⟨w2.heap.size, 0, none⟩) 0 0) 0 [] rfl (World.ownsRow_made w2 #[] 0 (Nat.le_refl _) (Nat.zero_le _) rfl) tq m tc (nodeCells tl) rfl ML.out (SRC2.out _ BE2.out) (nodeCells_one _) HK2.out.1 HK2.out.2 (by simp) ?_; intro p2 cap2 w3 hown hgrow hblk; rw [Nat.zero_add] at hown; simp only [Nat.zero_add]; have R2 := Lib.hid hown; have B3 := Lib.hid ((box_keep (W := w2) (.cells #[] 58)).grown hgrow (by simp) fun g e => by (simp [Value.ownBlock] at e; omega)); clear hown hgrow hblk)))
          have L2 := lists_row H1.out (fun vs' h => slice_same SL0.out (by rw [HN.out] at *; exact h)) (show _ from (by rw [← HN.out]; exact R1.out)) B2.out
          have B3w := Lib.hid (B2.out.trans (B3.out.mono B2.out.size))
          have L3 := L2.below B3.out
          have T3 : NodesAt w3 (.slice p2 m cap2) tl := by
            have := SliceAt.of_owns R2.out
            unfold NodesAt
            rw [← HM.out]
            exact this
          have C4 := Lib.hid (arrow_any _ _ Ls tl w3 L3 T3 (by have := HX.out.1; omega))
          clear L2 L3 T3
          go_wp2_with fail
          refine C4.out.mono ?_
          rintro e w4 ⟨v4, rfl, r4, b4⟩
          have B4 := Lib.hid (B3w.out.trans (b4.mono B3w.out.size))
          have N4 : NodesAt w4 v4 (arrN Ls tl) := SliceAt.of_owns r4
          obtain ⟨q4, c4, rfl⟩ := nodes_form' N4
          have N4H := Lib.hid N4
          obtain ⟨xl, hxl⟩ : ∃ xl, xl = (arrN Ls tl).length := ⟨_, rfl⟩
          have HXL := Lib.hid hxl
          rw [← hxl] at N4H ⊢
          have XN : Hid ((nodeCells (arrN Ls tl)).length = xl * 4) := Lib.hid (by rw [length_nodeCells, ← HXL.out])
          have SRC4 : Hid (xl ≠ 0 → ∃ ad, q4 = some ad ∧ ∀ j u, (nodeCells (arrN Ls tl))[j]? = some u → (w4.alloc (.cells #[] 58)).cell? (ad.add j) = some u) := Lib.hid fun h0 => by
            obtain ⟨q', c', e', h'⟩ := src_of (N4H.out.below (box_keep (.cells #[] 58)))
            simp only [Value.slice.injEq] at e'
            rw [e'.1]
            exact h' (by rw [← HXL.out]; exact h0)
          have HK4 : Hid (0 + xl ≤ maxLen ∧ (0 + xl) * 40 ≤ 140737488355328) := Lib.hid (by have := HX.out.1; have := HXL.out; constructor; unfold maxLen; omega; omega)
          clear b4 r4 N4 hxl C4 R1 R2
          go_wp2_with ((at_builtin; refine wpList_append_any _ rfl _ _ 22 rfl w4.heap.size 58 j0 zeroNode 4 40 Tryz.underlying22 HJ.out.1 HJ.out.2.1 HJ.out.2.2.1 HJ.out.2.2.2 rfl (by decide) (.slice (some ⟨w4.heap.size, 0, none⟩) 0 0) 0 [] rfl (World.ownsRow_made w4 #[] 0 (Nat.le_refl _) (Nat.zero_le _) rfl) q4 xl c4 (nodeCells (arrN Ls tl)) rfl XN.out SRC4.out (nodeCells_one _) HK4.out.1 HK4.out.2 (by simp) ?_; intro p5 cap5 w5 hown hgrow hblk; rw [Nat.zero_add] at hown; simp only [Nat.zero_add]; have R5 := Lib.hid hown; have B5 := Lib.hid ((box_keep (W := w4) (.cells #[] 58)).grown hgrow (by simp) fun g e => by (simp [Value.ownBlock] at e; omega)); clear hown hgrow hblk))
          have N5 : NodesAt w5 (.slice p5 xl cap5) (arrN Ls tl) := by
            have := SliceAt.of_owns R5.out
            unfold NodesAt
            rw [← HXL.out]
            exact this
          have B5w := Lib.hid (B4.out.trans (B5.out.mono B4.out.size))
          have N45 := Lib.hid (N4H.out.below B5.out)
          have C6 := Lib.hid (parts_any _ _ w5 N5 (by have := HX.out.1; omega) HX.out.2)
          clear N5 R5
          go_wp2_with fail
          refine C6.out.mono ?_
          rintro e w6 ⟨pa, pb, rfl, b6, hcase⟩
          have B6 := Lib.hid (B5w.out.trans (b6.mono B5w.out.size))
          have N6 := Lib.hid (N45.out.below b6)
          have CASE := Lib.hid hcase
          have C7 := Lib.hid (rarrow_any tl Ls (.slice lq i lc) (.slice tq m tc) w6 (by have := H1.out.below B6.out; rw [← HN.out] at this; exact this) (by have := H2.out.below B6.out; rw [← HM.out] at this; exact this) (by have := HX.out.1; omega))
          clear b6 hcase C6
          go_wp2_with fail
          refine C7.out.mono ?_
          rintro e w7 ⟨v7, rfl, n7, b7⟩
          have B7 := Lib.hid (B6.out.trans (b7.mono B6.out.size))
          have N7 := Lib.hid (N6.out.below b7)
          have B67 := Lib.hid b7
          have C8 := Lib.hid (ex_same _ _ (arrN Ls tl) w7 N7.out n7 (by have := HX.out.1; omega))
          obtain ⟨q7, c7, rfl⟩ := nodes_form' n7
          clear b7 n7 C7
          go_wp2_with fail
          refine C8.out.mono ?_
          rintro e w8 ⟨rfl, b8⟩
          have B8 := Lib.hid (B7.out.trans (b8.mono B7.out.size))
          have N8 := Lib.hid (N7.out.below b8)
          have B68 := Lib.hid (B67.out.trans (b8.mono B67.out.size))
          have C9 := Lib.hid (rtype_any _ (arrN Ls tl) w8 N8.out (by have := HX.out.1; omega) HX.out.2)
          unfold RrP at C9
          clear b8 C8
          rcases CASE.out with ⟨hno, rfl, rfl⟩ | ⟨t, L, r, hg, hf, hp, hl6, hr6⟩
          · rw [hno] at C9
            clear hno CASE
            go_wp2_with fail
            refine C9.out.mono ?_
            rintro e w9 ⟨rfl, b9⟩
            have F := Lib.hid (E.out _ (B8.out.trans (b9.mono B8.out.size)))
            clear b9 C9
            go_wp2
            first | go_ret | skip
            exact F.out
          · have hyes : tyB (arrN Ls tl) = true := by rw [← hf]; exact tyB_of hg (by rw [hf]; have := HX.out.1; omega)
            rw [hyes] at C9
            have LA8 := Lib.hid (hl6.below B68.out)
            have RA8 := Lib.hid (hr6.below B68.out)
            have TT := Lib.hid (And.intro hg (And.intro hf hp))
            have TL := Lib.hid (show L.length ≤ 4000 ∧ ∀ x ∈ L.map flatT, x.length ≤ 1000000 from by
              have h1 := hp.len
              have h2 : szT t ≤ 670 := by rw [← flatT_length, hf]; exact HX.out.1
              refine ⟨by omega, fun x hx => ?_⟩
              obtain ⟨a, ha, rfl⟩ := List.mem_map.1 hx
              rw [flatT_length]
              have := hp.mem_le a ha
              omega)
            have RL : Hid ((flatT r).length ≤ 1000000) := Lib.hid (by
              have h2 : szT t ≤ 670 := by rw [← flatT_length, hf]; exact HX.out.1
              have := hp.last_le
              rw [flatT_length]
              omega)
            obtain ⟨la, lca, rfl⟩ := hl6.form
            obtain ⟨ra, rca, rfl⟩ := nodes_form' hr6
            clear hg hf hp hl6 hr6 hyes CASE
            go_wp2_with fail
            refine C9.out.mono ?_
            rintro e w9 ⟨rfl, b9⟩
            have B9 := Lib.hid (B8.out.trans (b9.mono B8.out.size))
            have LA9 := Lib.hid (LA8.out.below b9)
            have RA9 := Lib.hid (RA8.out.below b9)
            have C10 := Lib.hid (rparts_any (szT t) t _ w9 (Nat.le_refl _) TT.out.1 (by rw [TT.out.2.1]; exact N8.out.below b9) (by rw [← flatT_length, TT.out.2.1]; have := HX.out.1; omega))
            clear b9 C9
            go_wp2_with fail
            refine C10.out.mono ?_
            rintro e w10 ⟨u1, u2, L', r', rfl, hp', hl10, hr10, b10⟩
            obtain ⟨rfl, rfl⟩ := pt_det TT.out.2.2 hp'
            have B10 := Lib.hid (B9.out.trans (b10.mono B9.out.size))
            have C11 := Lib.hid (types_any _ _ _ _ w10 (LA9.out.below b10) hl10 (by rw [List.length_map]; have := TL.out.1; omega) TL.out.2)
            rw [decide_eq_true rfl] at C11
            have RA10 := Lib.hid (RA9.out.below b10)
            have RB10 := Lib.hid hr10
            obtain ⟨la2, lca2, rfl⟩ := hl10.form
            obtain ⟨ra2, rca2, rfl⟩ := nodes_form' hr10
            rw [List.length_map] at C11
            clear b10 hp' hl10 hr10 C10
            go_wp2_with fail
            refine C11.out.mono ?_
            rintro e w11 ⟨rfl, b11⟩
            have B11 := Lib.hid (B10.out.trans (b11.mono B10.out.size))
            have C12 := Lib.hid (ex_same _ _ (flatT r) w11 (RA10.out.below b11) (RB10.out.below b11) RL.out)
            clear b11 C11
            go_wp2_with fail
            refine C12.out.mono ?_
            rintro e w12 ⟨rfl, b12⟩
            have F := Lib.hid (E.out _ (B11.out.trans (b12.mono B11.out.size)))
            clear b12 C12
            go_wp2
            first | go_ret | skip
            exact F.out
end Go.Proofs.YtncifeeinogcnaaGreatDoor
