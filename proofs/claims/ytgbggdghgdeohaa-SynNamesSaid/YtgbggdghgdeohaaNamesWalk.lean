/- The walk of SynNames. -/
import Derived.Test.YtgbggdghgdeohaaSynS
namespace Go.Proofs.Ytgbggdghgdeohaa
open Go.RowKit Go.Proofs.TreeMath
theorem nodup_ne {ss : List ByteArray} (h : ss.Nodup) {i j : Nat} (hij : i < j) (hj : j < ss.length) : ¬ ss.getD i default = ss.getD j default := by
  rw [List.getD_eq_getElem?_getD, List.getD_eq_getElem?_getD, List.getElem?_eq_getElem hj, List.getElem?_eq_getElem (show i < ss.length by omega)]
  intro e
  have := (List.getElem_inj h).1 e
  omega
set_option maxRecDepth 100000 in
set_option maxHeartbeats 8000000 in
theorem names_a (p : Option Addr) (n c : Nat) (ns : List Nd) (w : World) (H : Hid (NodesAt w (.slice p n c) ns)) (FW : Hid (fewB ns = false)) :
    Calls Try.prog 8 #[.slice p n c] w (RB true w) := by
  have FEW := Lib.hid (fun W (hW : Below w.heap.size w W) => few_any _ ns W (H.out.below hW))
  rw [FW.out] at FEW
  go_enter Try.func8, Try.ntmps8
  go_wp2_with fail
  refine (awake_any _).mono ?_
  rintro e w1 ⟨rfl, b1⟩
  have B1 := Lib.hid b1
  clear b1
  go_wp2_with fail
  refine (FEW.out _ B1.out).mono ?_
  rintro e w2 ⟨rfl, rfl⟩
  go_wp2_with fail
  refine (awake_any _).mono ?_
  rintro e w3 ⟨rfl, b3⟩
  have B3 := Lib.hid (B1.out.trans (b3.mono B1.out.size))
  clear b3
  go_wp2_with fail
  go_ret
  exact ⟨rfl, B3.out⟩
set_option maxRecDepth 100000 in
set_option maxHeartbeats 8000000 in
theorem names_b (p : Option Addr) (n c : Nat) (ns : List Nd) (x : Int) (w : World) (H : Hid (NodesAt w (.slice p n c) ns)) (FW : Hid (fewB ns = true)) (CX : Hid (CheckIs ns 1 x)) (h0 : ¬ x = 0) :
    Calls Try.prog 8 #[.slice p n c] w (RB true w) := by
  have FEW := Lib.hid (fun W (hW : Below w.heap.size w W) => few_any _ ns W (H.out.below hW))
  rw [FW.out] at FEW
  have HN : Hid (ns.length ≤ 1000000) := Lib.hid (by have := (few_yes FW.out).1; omega)
  have CHK := Lib.hid (fun v W (h : NodesAt W v ns) => Pat_any v ns x W h (by have := (few_yes FW.out).1; omega) (few_yes FW.out).2 CX.out)
  have g0 : (x != 0) = true := by simpa using h0
  clear h0
  go_enter Try.func8, Try.ntmps8
  go_wp2_with fail
  refine (awake_any _).mono ?_
  rintro e w1 ⟨rfl, b1⟩
  have B1 := Lib.hid b1
  clear b1
  go_wp2_with fail
  refine (FEW.out _ B1.out).mono ?_
  rintro e w2 ⟨rfl, rfl⟩
  go_wp2_with fail
  refine (own_bel _ ns w _ H.out HN.out B1.out).mono ?_
  rintro e w3 ⟨v3, rfl, h3, b3⟩
  have B3 := Lib.hid (B1.out.trans (b3.mono B1.out.size))
  clear b3
  obtain ⟨p3, c3, rfl⟩ := nodes_form h3
  have H3 := Lib.hid h3
  clear h3
  go_wp2_with fail
  refine (CHK.out _ _ H3.out).mono ?_
  rintro e w4 ⟨rfl, b4⟩
  have B4 := Lib.hid (B3.out.trans (b4.mono B3.out.size))
  clear b4
  go_wp2_with fail
  refine (awake_any _).mono ?_
  rintro e w5 ⟨rfl, b5⟩
  have B5 := Lib.hid (B4.out.trans (b5.mono B4.out.size))
  clear b5
  go_wp2_with fail
  go_ret
  exact ⟨rfl, B5.out⟩
set_option maxRecDepth 100000 in
set_option maxHeartbeats 8000000 in
theorem names_c (p : Option Addr) (n c : Nat) (ns : List Nd) (x : Int) (ss : List ByteArray) (w : World) (H : Hid (NodesAt w (.slice p n c) ns)) (FW : Hid (fewB ns = true)) (CX : Hid (CheckIs ns 1 x)) (h0 : x = 0) (NX : Hid (NamesIs ns ss)) (LN : Hid (ss.length ≤ 120)) (TN : Hid (∀ s ∈ ss, s.size ≤ 300 ∧ nameB s = true)) (ND : Hid ss.Nodup) (CM : Hid (ss.length ≤ 50 → deepI (kk ns) ≤ 90 → inB z9 ss = false → CheckIs (⟨10, ByteArray.empty, 0, 3⟩ :: ⟨1, ByteArray.empty, 0, 0⟩ :: (ns ++ (vR ss.reverse).flat)) 0 0 ∧ FreeIs (⟨10, ByteArray.empty, 0, 3⟩ :: ⟨1, ByteArray.empty, 0, 0⟩ :: (ns ++ (vR ss.reverse).flat)) [z9] ∧ wholeB (kk (⟨10, ByteArray.empty, 0, 3⟩ :: ⟨1, ByteArray.empty, 0, 0⟩ :: (ns ++ (vR ss.reverse).flat))) = true ∧ Tx (⟨10, ByteArray.empty, 0, 3⟩ :: ⟨1, ByteArray.empty, 0, 0⟩ :: (ns ++ (vR ss.reverse).flat)) ∧ (⟨10, ByteArray.empty, 0, 3⟩ :: ⟨1, ByteArray.empty, 0, 0⟩ :: (ns ++ (vR ss.reverse).flat)).length ≤ 100000)) :
    Calls Try.prog 8 #[.slice p n c] w (RB true w) := by
  have FEW := Lib.hid (fun W (hW : Below w.heap.size w W) => few_any _ ns W (H.out.below hW))
  rw [FW.out] at FEW
  have HN : Hid (ns.length ≤ 1000000) := Lib.hid (by have := (few_yes FW.out).1; omega)
  have CHK := Lib.hid (fun v W (h : NodesAt W v ns) => Pat_any v ns x W h (by have := (few_yes FW.out).1; omega) (few_yes FW.out).2 CX.out)
  have NMS := Lib.hid (fun v W (h : NodesAt W v ns) => Names_any v ns ss W h (by have := (few_yes FW.out).1; omega) (few_yes FW.out).2 NX.out)
  have DP := Lib.hid (fun v W (h : NodesAt W v ns) => deep_any v ns W h HN.out)
  subst h0
  go_enter Try.func8, Try.ntmps8
  go_wp2_with fail
  refine (awake_any _).mono ?_
  rintro e w1 ⟨rfl, b1⟩
  have B1 := Lib.hid b1
  clear b1
  go_wp2_with fail
  refine (FEW.out _ B1.out).mono ?_
  rintro e w2 ⟨rfl, rfl⟩
  go_wp2_with fail
  refine (own_bel _ ns w _ H.out HN.out B1.out).mono ?_
  rintro e w3 ⟨v3, rfl, h3, b3⟩
  have B3 := Lib.hid (B1.out.trans (b3.mono B1.out.size))
  clear b3
  obtain ⟨p3, c3, rfl⟩ := nodes_form h3
  have H3 := Lib.hid h3
  clear h3
  go_wp2_with fail
  refine (CHK.out _ _ H3.out).mono ?_
  rintro e w4 ⟨rfl, b4⟩
  have B4 := Lib.hid (B3.out.trans (b4.mono B3.out.size))
  clear b4
  go_wp2_with fail
  refine (own_bel _ ns w _ H.out HN.out B4.out).mono ?_
  rintro e w5 ⟨v5, rfl, h5, b5⟩
  have B5 := Lib.hid (B4.out.trans (b5.mono B4.out.size))
  clear b5
  obtain ⟨p5, c5, rfl⟩ := nodes_form h5
  have H5 := Lib.hid h5
  clear h5
  go_wp2_with fail
  refine (NMS.out _ _ H5.out).mono ?_
  rintro e w6 ⟨v6, rfl, h6, b6⟩
  have B6 := Lib.hid (B5.out.trans (b6.mono B5.out.size))
  clear b6
  have HSS := Lib.hid h6
  obtain ⟨_, ap, ac, rfl, _, _, ha6⟩ := h6
  have HA := Lib.hid ha6
  clear ha6
  obtain ⟨A, hA⟩ : ∃ A, A = ss.length := ⟨_, rfl⟩
  have hA3 : A ≤ 120 := by rw [hA]; exact LN.out
  rw [← hA] at HA ⊢
  have HAL := Lib.hid hA
  clear hA
  go_wp2_with fail
  go_loopw [4] (fun s4 wr => ∃ j : Nat, j ≤ A ∧ s4 = .int .i64 (j : Int) ∧ Below w6.heap.size w6 wr) (fun s4 _ => A - (intOf s4).toNat)
  case atStart => exact ⟨0, Nat.zero_le _, rfl, Below.refl _ _⟩
  case round =>
    obtain ⟨wo, hwo⟩ : ∃ wo : World, wo = wr := ⟨_, rfl⟩
    subst hwo
    obtain ⟨j, hj, rfl, hbl⟩ := hrel
    have BL := Lib.hid hbl
    clear hbl
    by_cases h1 : j < A
    · obtain ⟨b, off, rfl, hb, hc⟩ := HA.out (by omega)
      have hjl : j < ss.length := by rw [← HAL.out]; exact h1
      have c0 := (hc.kept (BL.out.block b hb)).str j hjl
      have hm : ss.getD j default ∈ ss := by rw [List.getD_eq_getElem?_getD, List.getElem?_eq_getElem hjl]; exact List.getElem_mem hjl
      have NAM := Lib.hid (fun W => name_any (ss.getD j default) W (TN.out _ hm).1)
      rw [(TN.out _ hm).2] at NAM
      have HC := Lib.hid hc
      have DIS := Lib.hid (fun (q : Nat) (hq : q < j) => nodup_ne ND.out (i := q) (j := j) (by omega) hjl)
      have c0H := Lib.hid c0
      obtain ⟨t, ht⟩ : ∃ t, t = ss.getD j default := ⟨_, rfl⟩
      rw [← ht] at c0 NAM DIS c0H
      have HT := Lib.hid ht
      have hltz : ((j : Int) < (A : Int)) := by omega
      clear ht hc hm
      go_wp2_with fail
      refine (NAM.out _).mono ?_
      rintro e x1 ⟨rfl, y1⟩
      have Y1 := Lib.hid (BL.out.trans (y1.mono BL.out.size))
      clear y1 c0
      go_wp2_with fail
      go_loopw [5] (fun s5 wr => ∃ q : Nat, q ≤ j ∧ s5 = .int .i64 (q : Int) ∧ Below w6.heap.size w6 wr) (fun s5 _ => j - (intOf s5).toNat)
      case atStart => exact ⟨0, Nat.zero_le _, rfl, Y1.out⟩
      case round =>
        obtain ⟨wi, hwi⟩ : ∃ wi : World, wi = wr := ⟨_, rfl⟩
        subst hwi
        obtain ⟨q, hq, rfl, hbi⟩ := hrel
        have BI := Lib.hid hbi
        clear hbi
        by_cases hqj : q < j
        · have cq := (HC.out.kept (BI.out.block b hb)).str q (by omega)
          have cj := (HC.out.kept (BI.out.block b hb)).str j hjl
          have hne := DIS.out q hqj
          rw [show ss.getD j default = t from HT.out.symm] at cj
          obtain ⟨u, hu⟩ : ∃ u, u = ss.getD q default := ⟨_, rfl⟩
          rw [← hu] at cq hne
          have g1 := text_ne hne
          have g1' := text_ne (fun e => hne e.symm)
          have g2 : (t.toList == u.toList) = false := by simpa using g1'
          have g3 : (u.toList == t.toList) = false := by simpa using g1
          have hqz : ((q : Int) < (j : Int)) := by omega
          have hbw : b < wi.heap.size := Nat.lt_of_lt_of_le hb BI.out.size
          clear hu hne
          go_wp2
          go_quiet (fail)
          go_wp2
          go_roundw
          case rel => exact ⟨q + 1, hqj, by go_num, ⟨BI.out.os, BI.out.tape, BI.out.output, BI.out.size, BI.out.block⟩⟩
          case measure => simp [intOf]; omega
        · obtain rfl : q = j := by omega
          go_wp2
          refine ⟨⟨q + 1, h1, by go_num, BI.out⟩, by simp [intOf]; omega⟩
    · obtain rfl : j = A := by omega
      have BWO := Lib.hid (B6.out.trans (BL.out.mono B6.out.size))
      go_wp2_with fail
      refine (own_bel _ ns w _ H.out HN.out BWO.out).mono ?_
      rintro e z1 ⟨u1, rfl, f1, y1⟩
      obtain ⟨p1, c1, rfl⟩ := nodes_form f1
      have F1 := Lib.hid f1
      have BL1 := Lib.hid (BL.out.trans (y1.mono BL.out.size))
      have BW1 := Lib.hid (BWO.out.trans (y1.mono BWO.out.size))
      clear f1 y1
      go_wp2_with fail
      refine (DP.out _ _ F1.out).mono ?_
      rintro e z2 ⟨_, rfl, rfl, y2⟩
      have BL2 := Lib.hid (BL1.out.trans (y2.mono BL1.out.size))
      have BW2 := Lib.hid (BW1.out.trans (y2.mono BW1.out.size))
      clear y2
      by_cases hd : deepI (kk ns) ≤ 90
      · have gd : decide ((90 : Int) < (deepI (kk ns) : Int)) = false := by simp; omega
        have gd2 : decide (90 < deepI (kk ns)) = false := by simp; omega
        have HD := Lib.hid hd
        have V0 : Hid (NodesAt (z2.alloc (.cells #[.int .i64 3, .string ⟨#[122, 57]⟩, .int .i64 0, .int .i64 0] 42)) (.slice (some ⟨z2.heap.size, 0, none⟩) 1 1) (vR []).flat) := Lib.hid (node_new z2 ⟨3, z9, 0, 0⟩)
        have BL3 := Lib.hid (BL2.out.alloc BL2.out.size (.cells #[.int .i64 3, .string ⟨#[122, 57]⟩, .int .i64 0, .int .i64 0] 42))
        clear hd
        go_wp2_with fail
        go_loopw [6, 7] (fun s6 s7 wr => ∃ (q : Nat) (vv : Value), vv = s6 ∧ q ≤ j ∧ s7 = .int .i64 (q : Int) ∧ NodesAt wr vv (vR (ss.take q).reverse).flat ∧ Below w6.heap.size w6 wr) (fun _ s7 _ => j - (intOf s7).toNat)
        case atStart => exact ⟨0, _, rfl, Nat.zero_le _, rfl, V0.out, BL3.out⟩
        case round =>
          obtain ⟨wo, hwo⟩ : ∃ wo : World, wo = wr := ⟨_, rfl⟩
          subst hwo
          obtain ⟨q, vv, rfl, hq, rfl, hvv, hbq⟩ := hrel
          have VV := Lib.hid hvv
          have BQ := Lib.hid hbq
          obtain ⟨vp, vc, hvf⟩ := nodes_form hvv
          subst hvf
          clear hvv hbq
          by_cases hqj : q < j
          · obtain ⟨b, off, rfl, hb, hc⟩ := HA.out (by omega)
            have hql : q < ss.length := by rw [← HAL.out]; exact hqj
            have cq := (hc.kept (BQ.out.block b hb)).str q hql
            have TK := Lib.hid (take_str ss q hql)
            obtain ⟨t, ht⟩ : ∃ t, t = ss.getD q default := ⟨_, rfl⟩
            rw [← ht] at cq TK
            have LL : Hid ((vR (ss.take q).reverse).flat.length ≤ 1000) := Lib.hid (by rw [F.flat_length, vR_sz]; simp; omega)
            have ST : Hid ((vR (ss.take (q + 1)).reverse).flat = ⟨6, ByteArray.empty, 0, 2⟩ :: ⟨3, t, 0, 0⟩ :: (vR (ss.take q).reverse).flat) := Lib.hid (by rw [TK.out, List.reverse_append]; simp [vR, F.flat])
            obtain ⟨L, hL⟩ : ∃ L, L = (vR (ss.take q).reverse).flat := ⟨_, rfl⟩
            rw [← hL] at VV LL ST ⊢
            have ba : Below wo.heap.size wo (wo.alloc (.cells #[.int .i64 3, .string t, .int .i64 0, .int .i64 0] 42)) := (Below.refl _ _).alloc (Nat.le_refl _) _
            have NA := Lib.hid (node_new wo ⟨3, t, 0, 0⟩)
            have VA := Lib.hid (VV.out.below ba)
            have LI := Lib.hid (lists_lit (wo.alloc (.cells #[.int .i64 3, .string t, .int .i64 0, .int .i64 0] 42)) [.slice (some ⟨wo.heap.size, 0, none⟩) 1 1, .slice vp L.length vc] 22 [[⟨3, t, 0, 0⟩], L] rfl (by simp [maxLen]) (fun i hi => by match i, hi with | 0, _ => exact NA.out | 1, _ => exact VA.out))
            rw [show (wo.alloc (.cells #[.int .i64 3, .string t, .int .i64 0, .int .i64 0] 42)).heap.size = wo.heap.size + 1 by simp] at LI
            have MK := Lib.hid (make_any ⟨6, ByteArray.empty, 0, 0⟩ _ _ _ LI.out ⟨by simp, by have := LL.out; simp; omega⟩)
            rw [show makeN ⟨6, ByteArray.empty, 0, 0⟩ [[⟨3, t, 0, 0⟩], L] = ⟨6, ByteArray.empty, 0, 2⟩ :: ⟨3, t, 0, 0⟩ :: L by simp [makeN]] at MK
            have BA := Lib.hid ((BQ.out.alloc BQ.out.size (.cells #[.int .i64 3, .string t, .int .i64 0, .int .i64 0] 42)).alloc (Nat.le_trans BQ.out.size (by simp)) (.cells #[.slice (some ⟨wo.heap.size, 0, none⟩) 1 1, .slice vp L.length vc] 22))
            have hqz : ((q : Int) < (j : Int)) := by omega
            unfold Nd.val at MK
            clear ht hc ba hL hql
            go_wp2_with fail
            refine MK.out.mono ?_
            rintro e x1 ⟨u1, rfl, f1, y1⟩
            have F1' := Lib.hid f1
            have Y1 := Lib.hid (BA.out.trans (y1.mono BA.out.size))
            clear f1 y1
            go_wp2_with fail
            go_roundw
            case rel => exact ⟨q + 1, _, rfl, hqj, by go_num, by rw [ST.out]; exact F1'.out, Y1.out⟩
            case measure => simp [intOf]; omega
          · obtain rfl : q = j := by omega
            have hfull : (ss.take q).reverse = ss.reverse := by rw [List.take_of_length_le (by rw [← HAL.out]; exact Nat.le_refl _)]
            rw [hfull] at VV ⊢
            have BWQ := Lib.hid (B6.out.trans (BQ.out.mono B6.out.size))
            have IN := Lib.hid (in_any _ ss ⟨#[122, 57]⟩ wo (HSS.out.below BQ.out))
            rw [← HAL.out] at IN
            obtain ⟨L, hL⟩ : ∃ L, L = (vR ss.reverse).flat := ⟨_, rfl⟩
            rw [← hL] at VV ⊢
            have HLL := Lib.hid hL
            clear hL hfull
            by_cases h50 : q ≤ 50
            · have g50 : decide ((50 : Int) < (q : Int)) = false := by simp; omega
              cases hz : inB z9 ss with
              | true =>
                have IN2 := IN.out
                rw [show inB ⟨#[122, 57]⟩ ss = true from hz] at IN2
                have IN3 := Lib.hid IN2
                clear IN IN2
                go_wp2_with fail
                refine IN3.out.mono ?_
                rintro e x1 ⟨rfl, rfl⟩
                go_wp2_with fail
                go_ret
                exact ⟨rfl, BWQ.out⟩
              | false =>
                have IN2 := IN.out
                rw [show inB ⟨#[122, 57]⟩ ss = false from hz] at IN2
                have IN3 := Lib.hid IN2
                clear IN IN2
                obtain ⟨cm1, cm2, cm3, cm4, cm5⟩ := CM.out (by rw [← HAL.out]; exact h50) HD.out hz
                rw [← HLL.out] at cm1 cm2 cm3 cm4 cm5
                obtain ⟨ML, hML⟩ : ∃ ML, ML = (⟨10, ByteArray.empty, 0, 3⟩ : Nd) :: ⟨1, ByteArray.empty, 0, 0⟩ :: (ns ++ L) := ⟨_, rfl⟩
                rw [← hML] at cm1 cm2 cm3 cm4 cm5
                have CKM := Lib.hid (fun v W (h : NodesAt W v ML) => Check_any v ML 0 W h cm5 cm4 cm1)
                have FRM := Lib.hid (fun v W (h : NodesAt W v ML) => Free_any v ML [z9] W h cm5 cm4 cm2)
                have WHM := Lib.hid (fun v W (h : NodesAt W v ML) => ref_whole v ML W h (by omega))
                rw [cm3] at WHM
                have HM5 : Hid (ML.length ≤ 1000000 ∧ ns.length + L.length ≤ 100000) := Lib.hid ⟨by omega, by have := cm5; rw [hML] at this; simp at this; omega⟩
                have HML := Lib.hid hML
                clear cm1 cm2 cm3 cm4 cm5 hML hz h50
                go_wp2_with fail
                refine IN3.out.mono ?_
                rintro e x1 ⟨rfl, rfl⟩
                have bi : Below wo.heap.size wo (wo.alloc (.cells #[.int .i64 1, .string ⟨#[]⟩, .int .i64 0, .int .i64 0] 42)) := (Below.refl _ _).alloc (Nat.le_refl _) _
                have NI : Hid (NodesAt (wo.alloc (.cells #[.int .i64 1, .string ⟨#[]⟩, .int .i64 0, .int .i64 0] 42)) (.slice (some ⟨wo.heap.size, 0, none⟩) 1 1) [⟨1, ByteArray.empty, 0, 0⟩]) := Lib.hid (node_new wo ⟨1, ByteArray.empty, 0, 0⟩)
                have VI := Lib.hid (VV.out.below bi)
                have BI := Lib.hid (BWQ.out.trans (bi.mono BWQ.out.size))
                clear bi
                go_wp2_with fail
                refine (own_bel _ ns w _ H.out HN.out BI.out).mono ?_
                rintro e x2 ⟨u2, rfl, f2, y2⟩
                obtain ⟨p2, c2, rfl⟩ := nodes_form f2
                have NI2 := Lib.hid (NI.out.below y2)
                have VI2 := Lib.hid (VI.out.below y2)
                have BI2 := Lib.hid (BI.out.trans (y2.mono BI.out.size))
                have F2 := Lib.hid f2
                clear f2 y2
                have LI := Lib.hid (lists_lit x2 [.slice (some ⟨wo.heap.size, 0, none⟩) 1 1, .slice p2 ns.length c2, .slice vp L.length vc] 22 [[⟨1, ByteArray.empty, 0, 0⟩], ns, L] rfl (by simp [maxLen]) (fun i hi => by match i, hi with | 0, _ => exact NI2.out | 1, _ => exact F2.out | 2, _ => exact VI2.out))
                have MK := Lib.hid (make_any ⟨10, ByteArray.empty, 0, 0⟩ _ _ _ LI.out ⟨by simp, by have := HM5.out.2; simp; omega⟩)
                rw [show makeN ⟨10, ByteArray.empty, 0, 0⟩ [[⟨1, ByteArray.empty, 0, 0⟩], ns, L] = ML by rw [HML.out]; simp [makeN]] at MK
                unfold Nd.val at MK
                have BI3 := Lib.hid (BI2.out.alloc BI2.out.size (.cells #[.slice (some ⟨wo.heap.size, 0, none⟩) 1 1, .slice p2 ns.length c2, .slice vp L.length vc] 22))
                go_wp2_with fail
                refine MK.out.mono ?_
                rintro e x3 ⟨u3, rfl, f3, y3⟩
                obtain ⟨p3, c3, rfl⟩ := nodes_form f3
                have M3 := Lib.hid f3
                have BX3 := Lib.hid (BI3.out.trans (y3.mono BI3.out.size))
                clear f3 y3 MK
                go_wp2_with fail
                refine (own_any _ _ _ M3.out HM5.out.1).mono ?_
                rintro e x4 ⟨u4, rfl, f4, y4⟩
                obtain ⟨p4, c4, rfl⟩ := nodes_form f4
                have O4 := Lib.hid f4
                have M4 := Lib.hid (M3.out.below y4)
                have BX4 := Lib.hid (BX3.out.trans (y4.mono BX3.out.size))
                clear f4 y4
                go_wp2_with fail
                refine (CKM.out _ _ O4.out).mono ?_
                rintro e x5 ⟨rfl, y5⟩
                have M5 := Lib.hid (M4.out.below y5)
                have BX5 := Lib.hid (BX4.out.trans (y5.mono BX4.out.size))
                clear y5
                go_wp2_with fail
                refine (FRM.out _ _ M5.out).mono ?_
                rintro e x6 ⟨u6, rfl, f6, y6⟩
                obtain ⟨p6, c6, rfl⟩ := strs_form f6
                have M6 := Lib.hid (M5.out.below y6)
                have BX6 := Lib.hid (BX5.out.trans (y6.mono BX5.out.size))
                have bz : Below x6.heap.size x6 (x6.alloc (.cells #[.string ⟨#[122, 57]⟩] 9)) := (Below.refl _ _).alloc (Nat.le_refl _) _
                have SA := Lib.hid (StrsAt.below f6 bz)
                have SB : Hid (StrsAt (x6.alloc (.cells #[.string ⟨#[122, 57]⟩] 9)) (.slice (some ⟨x6.heap.size, 0, none⟩) 1 1) [z9]) := Lib.hid (strs_lit x6 [z9] 1 rfl (by simp [maxLen]))
                have M7 := Lib.hid (M6.out.below bz)
                have BX7 := Lib.hid (BX6.out.trans (bz.mono BX6.out.size))
                clear f6 y6 bz
                go_wp2_with fail
                refine (same_any _ _ _ _ SA.out SB.out).mono ?_
                rintro e x8 ⟨rfl, y8⟩
                have M8 := Lib.hid (M7.out.below y8)
                have BX8 := Lib.hid (BX7.out.trans (y8.mono BX7.out.size))
                clear y8
                go_wp2_with fail
                refine (WHM.out _ _ M8.out).mono ?_
                rintro e x9 ⟨rfl, rfl⟩
                go_wp2_with fail
                go_ret
                exact ⟨rfl, BX8.out⟩
            · have g50 : decide ((50 : Int) < (q : Int)) = true := by simp; omega
              go_wp2_with fail
              go_ret
              exact ⟨rfl, BWQ.out⟩
      · have gd : decide ((90 : Int) < (deepI (kk ns) : Int)) = true := by simp; omega
        have gd2 : decide (90 < deepI (kk ns)) = true := by simp; omega
        clear hd
        go_wp2_with fail
        go_ret
        exact ⟨rfl, BW2.out⟩
theorem vR_tx (l : List ByteArray) (h : ∀ s ∈ l, s.size ≤ 300) : Tx (vR l).flat := by
  induction l with
  | nil =>
    intro n hn
    simp [vR, F.flat] at hn
    subst hn
    decide
  | cons x l ih =>
    intro n hn
    simp only [vR, F.flat, List.mem_cons, List.append_nil, List.nil_append] at hn
    rcases hn with rfl | rfl | hn
    · decide
    · exact h x (by simp)
    · exact ih (fun s hs => h s (by simp [hs])) n hn
theorem names_walk (v : Value) (ns : List Nd) (w : World) (h : NodesAt w v ns) : Calls Try.prog 8 #[v] w (RB true w) := by
  obtain ⟨p, c, rfl⟩ := nodes_form h
  cases hf : fewB ns with
  | false => exact names_a p _ c ns w (Lib.hid h) (Lib.hid hf)
  | true =>
    obtain ⟨x, hx⟩ := check_ex ns 1
    by_cases h0 : x = 0
    · have hx' := hx
      rcases hx with ⟨_, e⟩ | ⟨f, h1, h2, h3, h4⟩
      · rw [e] at h0; cases h0
      · have hz : synE f 1 = 0 := by rw [← h4, h0]
        obtain ⟨pn, pk, rfl⟩ := one_of f h2
        obtain ⟨z1, z2, z3, z4⟩ := synE_zero hz
        have hv : varsL ns = varsF (.cons pn pk .nil) := by rw [← h3, vars_flat]
        have hlen : ns.length = 1 + pk.sz := by rw [← h3, F.flat_length]; simp [F.sz]
        have h120 := (few_yes hf).1
        have htx : Tx ns := (few_yes hf).2
        have hnm : ∀ s ∈ varsL ns, nameB s = true := by rw [hv]; exact vars_names _ _ _ z3
        have hsz : ∀ s ∈ varsL ns, s.size ≤ 300 := varsL_tx htx
        have hnd : (varsL ns).Nodup := by
          rw [← dup_nodup, hv]
          simp only [twF, or_eq_zero] at z4
          have a := z4.1
          unfold twE at a
          cases hd : dupB (varsF (.cons pn pk .nil)) with
          | false => rfl
          | true => rw [hd] at a; simp at a
        have hdeep : deepI (kk ns) = 1 + deepF pk := by rw [← h3, deep_flat _ h1 h2]; simp [deepF]
        refine names_c p _ c ns x (varsL ns) w (Lib.hid h) (Lib.hid hf) (Lib.hid hx') h0 (Lib.hid ⟨x, hx', by rw [if_pos h0]⟩) (Lib.hid (Nat.le_trans (varsL_len ns) h120)) (Lib.hid fun s hs => ⟨hsz s hs, hnm s hs⟩) (Lib.hid hnd) (Lib.hid fun g1 g2 g3 => ?_)
        have hm := mF_syn pn pk (varsL ns).reverse hz (by omega) (by omega) (by simpa using g1) (fun s hs => hnm s (by simpa using hs))
        have hmf := mF_flat pn pk (varsL ns).reverse
        rw [show pn :: pk.flat = ns by rw [← h3, one_flat]] at hmf
        have hok : (mF pn pk (varsL ns).reverse).ok := ⟨by simp [F.cnt, vR_cnt], ⟨rfl, trivial, h1.1, h1.2.1, vR_ok _⟩, trivial⟩
        refine ⟨.inr ⟨mF pn pk (varsL ns).reverse, hok, rfl, hmf, hm.symm⟩, ?_, ?_, ?_, ?_⟩
        · refine .inr ⟨_, _, hok.1, hok.2.1, ?_, hm, ?_⟩
          · rw [← hmf]; simp [mF, F.flat]
          · rw [mF_free pn pk _ (fun s hs => by rw [← hv]; simpa using hs) (by rw [← hv]; exact g3)]
            rfl
        · have := whole_flat _ hok rfl
          rwa [hmf] at this
        · intro n hn
          simp only [List.mem_cons, List.mem_append] at hn
          rcases hn with rfl | rfl | hn | hn
          · decide
          · decide
          · exact htx n hn
          · exact vR_tx _ (fun s hs => hsz s (by simpa using hs)) n hn
        · have := F.flat_length (vR (varsL ns).reverse)
          rw [vR_sz] at this
          simp only [List.length_cons, List.length_append, this, List.length_reverse]
          omega
    · exact names_b p _ c ns x w (Lib.hid h) (Lib.hid hf) (Lib.hid hx) h0
end Go.Proofs.Ytgbggdghgdeohaa
