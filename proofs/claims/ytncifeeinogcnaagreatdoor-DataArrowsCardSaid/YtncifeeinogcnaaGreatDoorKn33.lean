/- Texts of this seat, one behind the other: DfC. -/
import Derived.Test.YtncifeeinogcnaaGreatDoorKn31
import Derived.Test.YtncifeeinogcnaaGreatDoorKn32
import Derived.Test.YtncifeeinogcnaaGreatDoorKn22
/- The document's right: whether a declaration may be. -/
set_option maxRecDepth 100000
namespace Go.Proofs.YtncifeeinogcnaaGreatDoor
open Go.Shelf Go.RowKit Go.Lib Go.Sort Go.Maps Go.Proofs.TreeMath Go.Proofs.LexMath

theorem mem_foldv (v : Int) : ∀ (t : List Nd) (acc : List Int), v ∈ t.foldl vstep acc ↔ v ∈ acc ∨ ∃ n ∈ t, n.kind = 31 ∧ n.num = v := by
  intro t
  induction t with
  | nil => intro acc; simp
  | cons a t ih =>
    intro acc
    rw [List.foldl_cons, ih]
    unfold vstep
    split
    · rename_i h
      simp only [List.mem_append, List.mem_cons, List.not_mem_nil, or_false, exists_eq_or_imp]
      constructor
      · rintro ((h1 | h1) | h1)
        · exact .inl h1
        · exact .inr (.inl ⟨h.1, h1.symm⟩)
        · exact .inr (.inr h1)
      · rintro (h1 | ⟨_, h1⟩ | h1)
        · exact .inl (.inl h1)
        · exact .inl (.inr h1.symm)
        · exact .inr h1
    · rename_i h
      simp only [List.mem_cons, exists_eq_or_imp]
      constructor
      · rintro (h1 | h1)
        · exact .inl h1
        · exact .inr (.inr h1)
      · rintro (h1 | ⟨h0, h1⟩ | h1)
        · exact .inl h1
        · by_cases hm : a.num ∈ acc
          · exact .inl (h1 ▸ hm)
          · exact absurd ⟨h0, hm⟩ h
        · exact .inr h1
/-- One part may be, where there are so many parameters. -/
def okA (p : Int) (t : List Nd) : Bool := tyB t && (varsN t).all fun v => decide (v < p)
theorem okA_far (p : Int) (t : List Nd) : okA p t = (tyB t && !t.any (farV p)) := by
  unfold okA
  congr 1
  rw [Bool.eq_iff_iff]
  simp only [List.all_eq_true, decide_eq_true_eq, Bool.not_eq_true', List.any_eq_false, farV, Bool.and_eq_true, not_and, Int.not_le]
  constructor
  · intro h n hn hk
    exact h n.num ((mem_foldv _ t []).2 (.inr ⟨n, hn, hk, rfl⟩))
  · intro h v hv
    rcases (mem_foldv v t []).1 hv with h1 | ⟨n, hn, hk, rfl⟩
    · simp at h1
    · exact h n hn hk
def rcC (p : Int) (c : Ct) : Bool := nameB c.name && decide (c.args.length ≤ 8) && c.args.all (okA p)
theorem rcC_right (p : Int) (c : Ct) : rcC p c = rightC p c := by
  unfold rcC rightC hasP
  rw [Bool.and_assoc, Bool.and_assoc, Bool.and_assoc]
  congr 2
  rw [Bool.eq_iff_iff]
  simp only [okA_far, List.all_eq_true, Bool.and_eq_true, Bool.not_eq_true', List.any_eq_false]
  constructor
  · intro h
    refine ⟨fun t ht => (h t ht).1, fun t ht => ?_⟩
    rw [List.any_eq_true]
    rintro ⟨n, hn, e⟩
    exact (h t ht).2 n hn e
  · intro h t ht
    exact ⟨h.1 t ht, fun n hn e => h.2 t ht (List.any_eq_true.2 ⟨n, hn, e⟩)⟩
theorem rightD_eq (d : Dt) : rightD d = (nameB d.name && decide (0 ≤ d.params) && decide (d.params ≤ 8) && decide (1 ≤ d.cons.length) && decide (d.cons.length ≤ 60) && d.cons.all (rcC d.params)) := by
  unfold rightD
  rw [show rcC d.params = rightC d.params from funext fun c => rcC_right _ c]
theorem all_take_true {α : Type} [Inhabited α] (p : α → Bool) (l : List α) (i : Nat) (hi : i < l.length) (h : (l.take i).all p = true) (hx : p (l.getD i default) = true) : (l.take (i + 1)).all p = true := by
  rw [List.take_succ_eq_append_getElem hi, List.all_append, h]
  rw [List.getD_eq_getElem?_getD, List.getElem?_eq_getElem hi] at hx
  simpa using hx
theorem all_of_get {α : Type} [Inhabited α] (p : α → Bool) (l : List α) (i : Nat) (hi : i < l.length) (hx : p (l.getD i default) = false) : l.all p = false := List.all_eq_false.2 ⟨_, getD_mem l i hi, by rw [hx]; decide⟩
theorem all_of_take {α : Type} (p : α → Bool) (l : List α) (i : Nat) (hi : i = l.length) (h : (l.take i).all p = true) : l.all p = true := by rw [hi, List.take_length] at h; exact h
set_option maxHeartbeats 4000000 in
theorem rdef_any (d : Dt) (w : World) (h : CtsAt w d.cv d.cons) (hf : FewDt d) : Calls Tryz.prog 63 #[d.val] w (BRw (rightD d) w) := by
  have H := Lib.hid h
  obtain ⟨f1, f2, f3⟩ := hf
  have FC := Lib.hid f3
  have R := rightD_eq d
  have E : ∀ b, rightD d = b → Hid (∀ w', Below w.heap.size w w' → BRw (rightD d) w (.returned (.bool b)) w') := fun b e => Lib.hid fun w' h => ⟨by rw [e], h⟩
  obtain ⟨lq, lc, ecv⟩ := h.form
  obtain ⟨dn, dp, dv, cs⟩ := d
  simp only at ecv R H f1 f2 FC
  subst ecv
  obtain ⟨m, hm⟩ : ∃ m, m = cs.length := ⟨_, rfl⟩
  have HM := Lib.hid hm
  have NM := Lib.hid (fun W => named_any dn W (by omega))
  unfold Dt.val
  simp only
  rw [← hm] at R f2 E ⊢
  obtain ⟨wb, hwb⟩ : ∃ wb, wb = w.alloc (.cells #[.string dn, .int .i64 dp, .slice lq m lc] 110) := ⟨_, rfl⟩
  have X := heap_alloc_new w (.cells #[.string dn, .int .i64 dp, .slice lq m lc] 110)
  have BA : Hid (Below w.heap.size w wb) := Lib.hid (by rw [hwb]; exact box_keep _)
  rw [← hwb] at X
  have HW := Lib.hid hwb
  have hlt0 : w.heap.size < wb.heap.size := (Array.getElem?_eq_some_iff.1 X).1
  have FR : Hid (∀ wr, Below wb.heap.size wb wr → wr.cell? ⟨w.heap.size, 0, none⟩ = some (.string dn) ∧ wr.cell? ⟨w.heap.size, 1, none⟩ = some (.int .i64 dp) ∧ wr.cell? ⟨w.heap.size, 2, none⟩ = some (.slice lq m lc)) := Lib.hid fun wr hb => by
    have h0 := Lib.cell_of_heap X 0
    have h1 := Lib.cell_of_heap X 1
    have h2 := Lib.cell_of_heap X 2
    exact ⟨(hb.cell (p := ⟨w.heap.size, 0, none⟩) hlt0).trans h0, (hb.cell (p := ⟨w.heap.size, 1, none⟩) hlt0).trans h1, (hb.cell (p := ⟨w.heap.size, 2, none⟩) hlt0).trans h2⟩
  have NO : Hid (rightD ⟨dn, dp, .slice lq m lc, cs⟩ = false → ∀ w', Below wb.heap.size wb w' → BRw (rightD ⟨dn, dp, .slice lq m lc, cs⟩) w (.returned (.bool false)) w') := Lib.hid fun e w' h => (E false e).out _ (BA.out.trans (h.mono BA.out.size))
  have YES : Hid (rightD ⟨dn, dp, .slice lq m lc, cs⟩ = true → ∀ w', Below wb.heap.size wb w' → BRw (rightD ⟨dn, dp, .slice lq m lc, cs⟩) w (.returned (.bool true)) w') := Lib.hid fun e w' h => (E true e).out _ (BA.out.trans (h.mono BA.out.size))
  have RR := Lib.hid R
  generalize BRw (rightD ⟨dn, dp, .slice lq m lc, cs⟩) w = Z at *
  generalize rightD ⟨dn, dp, .slice lq m lc, cs⟩ = rD at *
  clear h E X hwb hm R
  obtain ⟨y0, y1, y2⟩ := FR.out wb (Below.refl _ _)
  cases hnm : nameB dn with
  | false =>
    have F := Lib.hid (NO.out (by rw [RR.out, hnm]; rfl))
    rw [hnm] at NM
    clear NO YES RR hnm
    go_enter Tryz.func63, Tryz.ntmps63
    go_wp2_with fail
    rw [← HW.out]
    refine (NM.out wb).mono ?_
    rintro e w1 ⟨rfl, b1⟩
    have F := Lib.hid (F.out _ b1)
    clear b1
    go_wp2
    first | go_ret | skip
    exact F.out
  | true =>
    rw [hnm] at NM RR
    have NMB := Lib.hid (fun W => NM W)
    clear NM hnm
    by_cases p0 : dp < 0
    · have t0 : decide (dp < 0) = true := decide_eq_true p0
      have F := Lib.hid (NO.out (by rw [RR.out, decide_eq_false (by omega : ¬ (0 ≤ dp))]; rfl))
      clear NO YES RR
      go_enter Tryz.func63, Tryz.ntmps63
      go_wp2_with fail
      rw [← HW.out]
      refine (NMB.out wb).mono ?_
      rintro e w1 ⟨rfl, b1⟩
      obtain ⟨y0, y1, y2⟩ := FR.out w1 b1
      have F := Lib.hid (F.out _ b1)
      clear b1
      go_wp2
      first | go_ret | skip
      exact F.out
    · have t0 : decide (dp < 0) = false := decide_eq_false p0
      by_cases p8 : 8 < dp
      · have t1 : decide (8 < dp) = true := decide_eq_true p8
        have F := Lib.hid (NO.out (by rw [RR.out, decide_eq_false (by omega : ¬ (dp ≤ 8))]; simp))
        clear NO YES RR
        go_enter Tryz.func63, Tryz.ntmps63
        go_wp2_with fail
        rw [← HW.out]
        refine (NMB.out wb).mono ?_
        rintro e w1 ⟨rfl, b1⟩
        obtain ⟨y0, y1, y2⟩ := FR.out w1 b1
        have F := Lib.hid (F.out _ b1)
        clear b1
        go_wp2
        first | go_ret | skip
        exact F.out
      · have t1 : decide (8 < dp) = false := decide_eq_false p8
        by_cases m1 : m < 1
        · have t2 : decide ((m : Int) < (1 : Int)) = true := decide_eq_true (by omega)
          have F := Lib.hid (NO.out (by rw [RR.out, decide_eq_false (by omega : ¬ (1 ≤ m))]; simp))
          clear NO YES RR
          go_enter Tryz.func63, Tryz.ntmps63
          go_wp2_with fail
          rw [← HW.out]
          refine (NMB.out wb).mono ?_
          rintro e w1 ⟨rfl, b1⟩
          obtain ⟨y0, y1, y2⟩ := FR.out w1 b1
          have F := Lib.hid (F.out _ b1)
          clear b1
          go_wp2
          first | go_ret | skip
          exact F.out
        · have t2 : decide ((m : Int) < (1 : Int)) = false := decide_eq_false (by omega)
          by_cases m60 : 60 < m
          · have t3 : decide ((60 : Int) < (m : Int)) = true := decide_eq_true (by omega)
            have F := Lib.hid (NO.out (by rw [RR.out, decide_eq_false (by omega : ¬ (m ≤ 60))]; simp))
            clear NO YES RR
            go_enter Tryz.func63, Tryz.ntmps63
            go_wp2_with fail
            rw [← HW.out]
            refine (NMB.out wb).mono ?_
            rintro e w1 ⟨rfl, b1⟩
            obtain ⟨y0, y1, y2⟩ := FR.out w1 b1
            have F := Lib.hid (F.out _ b1)
            clear b1
            go_wp2
            first | go_ret | skip
            exact F.out
          · have t3 : decide ((60 : Int) < (m : Int)) = false := decide_eq_false (by omega)
            have RA : Hid (rD = cs.all (rcC dp)) := Lib.hid (by rw [RR.out, decide_eq_true (by omega : 0 ≤ dp), decide_eq_true (by omega : dp ≤ 8), decide_eq_true (by omega : 1 ≤ m), decide_eq_true (by omega : m ≤ 60)]; simp)
            have NOI : Hid (∀ i, i < m → rcC dp (cs.getD i default) = false → ∀ w', Below wb.heap.size wb w' → Z (.returned (.bool false)) w') := Lib.hid fun i hi e => NO.out (by rw [RA.out]; exact all_of_get _ cs i (by rw [← HM.out]; exact hi) e)
            have YA : Hid ((cs.take m).all (rcC dp) = true → ∀ w', Below wb.heap.size wb w' → Z (.returned (.bool true)) w') := Lib.hid fun e => YES.out (by rw [RA.out]; exact all_of_take _ cs m HM.out e)
            have HB0 : Hid (∀ W, Below wb.heap.size wb W → CtsAt W (.slice lq m lc) cs) := Lib.hid fun W hW => by have := (H.out.below BA.out).below hW; rw [← HM.out] at this; exact this
            clear NO YES RR RA m1 p0 H y0 y1 y2
            go_enter Tryz.func63, Tryz.ntmps63
            go_wp2_with fail
            rw [← HW.out]
            refine (NMB.out wb).mono ?_
            rintro e w1 ⟨rfl, b1⟩
            obtain ⟨y0, y1, y2⟩ := FR.out w1 b1
            have B1 := Lib.hid b1
            clear b1
            go_wp2
            go_loopw [3] (fun s3 wr => ∃ i : Nat, i ≤ m ∧ s3 = .int .i64 i ∧ Hid (Below wb.heap.size wb wr) ∧ Hid ((cs.take i).all (rcC dp) = true)) (fun s3 _ => m - (intOf s3).toNat)
            case atStart => exact ⟨0, Nat.zero_le _, rfl, B1, Lib.hid rfl⟩
            case round =>
              clear y0 y1 y2 B1
              obtain ⟨wo, hwo⟩ : ∃ wo : World, wo = wr := ⟨_, rfl⟩
              subst hwo
              obtain ⟨i, hi, rfl, hB, hA⟩ := hrel
              obtain ⟨y0, y1, y2⟩ := FR.out wo hB.out
              by_cases hlt : i < m
              · have t4 : decide ((i : Int) < (m : Int)) = true := by simpa using hlt
                have CC := HB0.out wo hB.out
                obtain ⟨b, o, c, e, hb, k0, k1⟩ := CC.cell i (by rw [← HM.out]; exact hlt)
                simp only [Value.slice.injEq] at e
                obtain ⟨rfl, -, -⟩ := e
                have CM := getD_mem cs i (by rw [← HM.out]; exact hlt)
                have FW := FC.out _ CM
                have LA0 := CC.2 _ CM
                have NOJ := Lib.hid (NOI.out i hlt)
                have NXT := Lib.hid (all_take_true (rcC dp) cs i (by rw [← HM.out]; exact hlt) hA.out)
                have RC : Hid (rcC dp (cs.getD i default) = (nameB (cs.getD i default).name && decide ((cs.getD i default).args.length ≤ 8) && (cs.getD i default).args.all (okA dp))) := Lib.hid rfl
                obtain ⟨ct, hct⟩ : ∃ ct, ct = cs.getD i default := ⟨_, rfl⟩
                rw [← hct] at k0 k1 FW LA0 NOJ NXT RC
                obtain ⟨aq, ac, eav⟩ := LA0.form
                obtain ⟨q, hq⟩ : ∃ q, q = ct.args.length := ⟨_, rfl⟩
                rw [← hq] at eav RC
                rw [eav] at k1 LA0
                have HQ := Lib.hid hq
                have Q10 : q ≤ 10 := by rw [hq]; exact FW.2.1
                obtain ⟨cn, hcn⟩ : ∃ cn, cn = ct.name := ⟨_, rfl⟩
                rw [← hcn] at k0 RC
                have FA := Lib.hid FW.2.2
                have NMC := Lib.hid (fun W => named_any cn W (by rw [hcn]; have := FW.1; omega))
                obtain ⟨wx, hwx⟩ : ∃ wx, wx = wo.alloc (.cells #[.string cn, .slice aq q ac] 112) := ⟨_, rfl⟩
                have HWX := Lib.hid hwx
                have HXH := heap_alloc_new wo (.cells #[.string cn, .slice aq q ac] 112)
                have BX : Hid (Below wo.heap.size wo wx) := Lib.hid (by rw [hwx]; exact box_keep _)
                rw [← hwx] at HXH
                have hltx : wo.heap.size < wx.heap.size := (Array.getElem?_eq_some_iff.1 HXH).1
                have FX : Hid (∀ W, Below wx.heap.size wx W → W.cell? ⟨wo.heap.size, 0, none⟩ = some (.string cn) ∧ W.cell? ⟨wo.heap.size, 1, none⟩ = some (.slice aq q ac)) := Lib.hid fun W hW => by
                  have h0 := Lib.cell_of_heap HXH 0
                  have h1 := Lib.cell_of_heap HXH 1
                  exact ⟨(hW.cell (p := ⟨wo.heap.size, 0, none⟩) hltx).trans h0, (hW.cell (p := ⟨wo.heap.size, 1, none⟩) hltx).trans h1⟩
                have BXO : Hid (∀ W, Below wx.heap.size wx W → Below wb.heap.size wb W) := Lib.hid fun W hW => (hB.out.trans (BX.out.mono hB.out.size)).trans (hW.mono (Nat.le_trans hB.out.size BX.out.size))
                have LX : Hid (∀ W, Below wx.heap.size wx W → ListsAt W (.slice aq q ac) ct.args) := Lib.hid fun W hW => (LA0.below BX.out).below hW
                obtain ⟨x0, x1⟩ := FX.out wx (Below.refl _ _)
                clear CC CM hct eav hq hcn hA HXH LA0 hB hb hwx FW NOI
                cases hn2 : nameB cn with
                | false =>
                  rw [hn2] at NMC
                  have F := Lib.hid (NOJ.out (by rw [RC.out, hn2]; rfl))
                  clear NXT NOJ RC hn2 LX
                  go_wp2_with fail
                  rw [← HWX.out]
                  refine (NMC.out wx).mono ?_
                  rintro e w2 ⟨rfl, b2⟩
                  have F := Lib.hid (F.out _ (BXO.out _ b2))
                  clear b2
                  go_wp2
                  first | go_ret | skip
                  exact F.out
                | true =>
                  rw [hn2] at NMC RC
                  clear hn2
                  by_cases q8 : 8 < q
                  · have t5 : decide ((8 : Int) < (q : Int)) = true := decide_eq_true (by omega)
                    have F := Lib.hid (NOJ.out (by rw [RC.out, decide_eq_false (by omega : ¬ (q ≤ 8))]; rfl))
                    clear NXT NOJ RC LX
                    go_wp2_with fail
                    rw [← HWX.out]
                    refine (NMC.out wx).mono ?_
                    rintro e w2 ⟨rfl, b2⟩
                    obtain ⟨x0, x1⟩ := FX.out w2 b2
                    have F := Lib.hid (F.out _ (BXO.out _ b2))
                    clear b2
                    go_wp2
                    first | go_ret | skip
                    exact F.out
                  · have t5 : decide ((8 : Int) < (q : Int)) = false := decide_eq_false (by omega)
                    have RK : Hid (rcC dp ct = ct.args.all (okA dp)) := Lib.hid (by rw [RC.out, decide_eq_true (by omega : q ≤ 8)]; simp)
                    have NOA : Hid (∀ a, a < q → okA dp (ct.args.getD a []) = false → ∀ W, Below wx.heap.size wx W → Z (.returned (.bool false)) W) := Lib.hid fun a ha e W hW => NOJ.out (by rw [RK.out]; exact all_of_get (α := List Nd) _ ct.args a (by rw [← HQ.out]; exact ha) e) W (BXO.out W hW)
                    have NXA : Hid ((ct.args.take q).all (okA dp) = true → (cs.take (i + 1)).all (rcC dp) = true) := Lib.hid fun e => NXT.out (by rw [RK.out]; exact all_of_take _ ct.args q HQ.out e)
                    clear NXT NOJ RC RK
                    go_wp2_with fail
                    rw [← HWX.out]
                    refine (NMC.out wx).mono ?_
                    rintro e w2 ⟨rfl, b2⟩
                    obtain ⟨x0, x1⟩ := FX.out w2 b2
                    have B2 := Lib.hid b2
                    clear b2
                    go_wp2
                    go_loopw [5] (fun s5 wr => ∃ a : Nat, a ≤ q ∧ s5 = .int .i64 a ∧ Hid (Below wx.heap.size wx wr) ∧ Hid ((ct.args.take a).all (okA dp) = true)) (fun s5 _ => q - (intOf s5).toNat)
                    case atStart => exact ⟨0, Nat.zero_le _, rfl, B2, Lib.hid rfl⟩
                    case round =>
                      clear x0 x1 B2 y0 y1 y2
                      obtain ⟨wa, hwa⟩ : ∃ wa : World, wa = wr := ⟨_, rfl⟩
                      subst hwa
                      obtain ⟨a, ha, rfl, hB, hA⟩ := hrel
                      obtain ⟨x0, x1⟩ := FX.out wa hB.out
                      by_cases hlt3 : a < q
                      · have t7 : decide ((a : Int) < (q : Int)) = true := by simpa using hlt3
                        obtain ⟨b3, o3, c3, q3, cc3, e3, hb3, z0, na⟩ := lists_cell2 (LX.out wa hB.out) a (by rw [← HQ.out]; exact hlt3)
                        simp only [Value.slice.injEq] at e3
                        obtain ⟨rfl, -, -⟩ := e3
                        have SM := FA.out (ct.args.getD a []) (by rw [List.getD_eq_getElem?_getD, List.getElem?_eq_getElem (by rw [← HQ.out]; exact hlt3)]; exact List.getElem_mem _)
                        have NOAA := Lib.hid (NOA.out a hlt3)
                        have NX5 := Lib.hid (all_take_true (α := List Nd) (okA dp) ct.args a (by rw [← HQ.out]; exact hlt3) hA.out)
                        have OK : Hid (okA dp (ct.args.getD a []) = (tyB (ct.args.getD a []) && (varsN (ct.args.getD a [])).all fun v => decide (v < dp))) := Lib.hid rfl
                        rw [show (ct.args.getD a default) = ct.args.getD a [] from rfl] at NX5
                        obtain ⟨L, hL⟩ : ∃ L, L = ct.args.getD a [] := ⟨_, rfl⟩
                        rw [← hL] at z0 na NX5 SM NOAA OK
                        have SMN : SmallN L := fun f hf => by have := SM.2 f hf; omega
                        have RT := Lib.hid (rtype_any _ L wa na (by omega) SMN)
                        unfold RrP at RT
                        have RV := Lib.hid (fun W (hW : Below wa.heap.size wa W) => rvars_any _ L W (na.below hW) (by omega))
                        obtain ⟨z, hz⟩ : ∃ z, z = L.length := ⟨_, rfl⟩
                        rw [← hz] at z0 RT RV
                        have BA2 := Lib.hid hB.out
                        have VL : Hid ((varsN L).length ≤ 60) := Lib.hid (by have := varsN_len L; omega)
                        have HB3 := Lib.hid hb3
                        clear hL hz na hA hb3 SM SMN hB
                        cases ht : tyB L with
                        | false =>
                          rw [ht] at RT
                          have F := Lib.hid (NOAA.out (by rw [OK.out, ht]; rfl))
                          clear NX5 NOAA OK RV
                          go_wp2_with fail
                          refine RT.out.mono ?_
                          rintro e w3 ⟨rfl, b3⟩
                          have F := Lib.hid (F.out _ (BA2.out.trans (b3.mono BA2.out.size)))
                          clear b3
                          go_wp2
                          first | go_ret | skip
                          exact F.out
                        | true =>
                          rw [ht] at RT OK
                          have OK : Hid (okA dp L = (varsN L).all fun v => decide (v < dp)) := Lib.hid (by rw [OK.out, Bool.true_and])
                          clear ht
                          go_wp2_with fail
                          refine RT.out.mono ?_
                          rintro e w3 ⟨rfl, b3⟩
                          obtain ⟨x0, x1⟩ := FX.out w3 (BA2.out.trans (b3.mono BA2.out.size))
                          have z1 := (b3.cell (p := ⟨_, _, none⟩) HB3.out).trans z0
                          have RV3 := Lib.hid (RV.out w3 b3)
                          unfold RvarsP at RV3
                          have B3 := Lib.hid (BA2.out.trans (b3.mono BA2.out.size))
                          clear b3 RT RV BA2
                          go_wp2_with fail
                          refine RV3.out.mono ?_
                          rintro e w4 ⟨vv, rfl, hv, b4⟩
                          have B4 := Lib.hid (B3.out.trans (b4.mono B3.out.size))
                          obtain ⟨_, vq, vc, rfl, _, _, hvc⟩ := SliceAt.of_owns hv
                          have VC := Lib.hid (fun W (hW : Below w4.heap.size w4 W) (x : Nat) (hx : x < (varsN L).length) => show ∃ bb oo, vq = some ⟨bb, oo, none⟩ ∧ W.cell? ⟨bb, oo + x, none⟩ = some (.int .i64 ((varsN L).getD x 0)) from by
                            obtain ⟨bb, oo, e, hbb, hcc⟩ := hvc (by omega)
                            exact ⟨bb, oo, e, (hW.cell (p := ⟨bb, oo + x, none⟩) hbb).trans (CellsIn.int hcc x hx)⟩)
                          obtain ⟨V, hV⟩ : ∃ V, V = varsN L := ⟨_, rfl⟩
                          rw [← hV] at VC OK VL ⊢
                          obtain ⟨vl, hvl⟩ : ∃ vl, vl = V.length := ⟨_, rfl⟩
                          have HVL := Lib.hid hvl
                          have VL60 : vl ≤ 60 := by rw [hvl]; exact VL.out
                          rw [← hvl] at VC ⊢
                          clear hv b4 hvc hV hvl B3 RV3 x0 x1 VL
                          go_wp2
                          go_loopw [7] (fun s7 wr => ∃ x : Nat, x ≤ vl ∧ s7 = .int .i64 x ∧ Hid (Below w4.heap.size w4 wr) ∧ Hid ((V.take x).all (fun v => decide (v < dp)) = true)) (fun s7 _ => vl - (intOf s7).toNat)
                          case atStart => exact ⟨0, Nat.zero_le _, rfl, Lib.hid (Below.refl _ _), Lib.hid rfl⟩
                          case round =>
                            obtain ⟨wz, hwz⟩ : ∃ wz : World, wz = wr := ⟨_, rfl⟩
                            subst hwz
                            obtain ⟨x, hx, rfl, hB, hF⟩ := hrel
                            have B5 := Lib.hid (B4.out.trans (hB.out.mono B4.out.size))
                            by_cases hlt4 : x < vl
                            · have t8 : decide ((x : Int) < (vl : Int)) = true := by simpa using hlt4
                              obtain ⟨bb, oo, rfl, v0⟩ := VC.out wz hB.out x hlt4
                              obtain ⟨y0, y1, y2⟩ := FR.out wz (BXO.out wz B5.out)
                              have NX6 := Lib.hid (all_take_true (fun v => decide (v < dp)) V x (by rw [← HVL.out]; exact hlt4) hF.out)
                              rw [show V.getD x default = V.getD x 0 from rfl] at NX6
                              have NOX := Lib.hid (fun (h : decide (V.getD x 0 < dp) = false) => NOAA.out (by rw [OK.out]; exact all_of_get _ V x (by rw [← HVL.out]; exact hlt4) h))
                              obtain ⟨vx, hvx⟩ : ∃ vx, vx = V.getD x 0 := ⟨_, rfl⟩
                              rw [← hvx] at v0 NX6 NOX
                              clear hvx hF
                              by_cases hvd : vx < dp
                              · have t9 : decide (dp ≤ vx) = false := decide_eq_false (by omega)
                                have G := Lib.hid (NX6.out (decide_eq_true hvd))
                                clear NX6 NOX
                                go_wp2
                                go_quiet (fail)
                                go_wp2
                                go_roundw
                                case rel => exact ⟨x + 1, by omega, by go_num, Lib.hid (below_drewN hB.out _), G⟩
                                case measure => simp [intOf]; omega
                              · have t9 : decide (dp ≤ vx) = true := decide_eq_true (by omega)
                                have F := Lib.hid (fun nq => NOX.out (decide_eq_false hvd) (wz.drewN nq) (below_drewN B5.out nq))
                                clear NX6 NOX
                                go_wp2
                                go_quiet (fail)
                                go_wp2
                                first | go_ret | skip
                                exact F.out _
                            · obtain rfl : x = vl := by omega
                              have t8 : decide ((x : Int) < (x : Int)) = false := by simp
                              have G := Lib.hid (NX5.out (by rw [OK.out]; exact all_of_take _ V x HVL.out hF.out))
                              clear hF NX5 NOAA OK
                              go_wp2
                              go_roundw
                              case rel => exact ⟨a + 1, by omega, by go_num, B5, G⟩
                              case measure => simp [intOf]; omega
                      · obtain rfl : a = q := by omega
                        have t7 : decide ((a : Int) < (a : Int)) = false := by simp
                        have G := Lib.hid (NXA.out hA.out)
                        have B5 := Lib.hid (BXO.out _ hB.out)
                        clear hA NXA NOA LX hB
                        go_wp2
                        go_roundw
                        case rel => exact ⟨i + 1, by omega, by go_num, B5, G⟩
                        case measure => simp [intOf]; omega
              · obtain rfl : i = m := by omega
                have t4 : decide ((i : Int) < (i : Int)) = false := by simp
                have F := Lib.hid (YA.out hA.out wo hB.out)
                clear hA hB
                go_wp2
                first | go_ret | skip
                exact F.out
end Go.Proofs.YtncifeeinogcnaaGreatDoor
