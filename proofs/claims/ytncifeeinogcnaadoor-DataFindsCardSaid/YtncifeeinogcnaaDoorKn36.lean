/- Texts of this seat, one behind the other: DmF. -/
import Derived.Test.YtncifeeinogcnaaDoorKn35
import Derived.Deep.RegionHeld3
import Derived.IntWalk
import Derived.BigRegion
import Derived.Deep.RegionWith
/- The law's walk: where any constructor stands. -/
set_option maxRecDepth 100000
namespace Go.Proofs.YtncifeeinogcnaaDoor
open Go.Shelf Go.RowKit Go.Lib Go.Sort Go.Maps Go.Proofs.TreeMath Go.Proofs.LexMath

set_option maxHeartbeats 4000000 in
theorem finds_walk (lv : Value) (ds : List Dt) (con : ByteArray) (w : World) (h : DtsAt w lv ds) (HT : TabW w) : Calls Tryd.prog 3 #[lv, .string con] w (RBt w) := by
  obtain ⟨i0, hi, hz0, hz1, hz2⟩ := infoD
  have HI := Lib.hid (And.intro hi (And.intro hz0 (And.intro hz1 hz2)))
  have AW := Lib.hid (fun w' (h : Below w.heap.size w w') => awake10_any w' (HT.after h))
  have E : Hid (∀ w', Below w.heap.size w w' → RBt w (.returned (.bool true)) w') := Lib.hid fun w' h => ⟨rfl, h⟩
  have H := Lib.hid h
  have FW := Lib.hid (fun W (hW : Below w.heap.size w W) => dfew_any lv ds W (h.below hW))
  obtain ⟨lq, lc, rfl⟩ := h.form
  obtain ⟨n, hnn⟩ : ∃ n, n = ds.length := ⟨_, rfl⟩
  have HN := Lib.hid hnn
  rw [← hnn] at FW ⊢
  generalize RBt w = Z at E ⊢
  clear h hnn HT hi hz0 hz1 hz2
  go_enter Tryd.func3, Tryd.ntmps3
  go_wp2_with fail
  refine (AW.out w (Below.refl _ _)).mono ?_
  rintro e w1 ⟨rfl, b1⟩
  have B1 := Lib.hid b1
  clear b1
  go_wp2_with fail
  refine (FW.out w1 B1.out).mono ?_
  rintro e w2 ⟨fb, rfl, hfb, b2⟩
  have B2 := Lib.hid (B1.out.trans (b2.mono B1.out.size))
  have FB := Lib.hid hfb
  clear b2 hfb FW
  cases fb with
  | false =>
    clear FB
    go_wp2_with fail
    refine (AW.out w2 B2.out).mono ?_
    rintro e w3 ⟨rfl, b3⟩
    have F := Lib.hid (E.out _ (B2.out.trans (b3.mono B2.out.size)))
    clear b3
    go_wp2
    first | go_ret | skip
    exact F.out
  | true =>
    by_cases hc : 60 < con.size
    · have t0 : decide ((60 : Int) < (con.size : Int)) = true := decide_eq_true (by omega)
      clear FB hc
      go_wp2_with fail
      refine (AW.out w2 B2.out).mono ?_
      rintro e w3 ⟨rfl, b3⟩
      have F := Lib.hid (E.out _ (B2.out.trans (b3.mono B2.out.size)))
      clear b3
      go_wp2
      first | go_ret | skip
      exact F.out
    have t0 : decide ((60 : Int) < (con.size : Int)) = false := decide_eq_false (by omega)
    have FD := Lib.hid (FB.out rfl)
    have n70 : n ≤ 70 := by rw [HN.out]; exact FD.out.1
    have FN := Lib.hid (fun W v (hW : DtsAt W v ds) => find_any v ds con W hW (few_len FD.out).1 (few_len FD.out).2)
    have FM := Lib.hid (fun W v (hW : DtsAt W v ds) => fam_any v ds con W hW (few_len FD.out).1 (few_len FD.out).2)
    have RF := Lib.hid (fun W (hW : Below w.heap.size w W) => rfind_any (.slice lq n lc) ds con W (by rw [HN.out]; exact H.out.below hW) FD.out)
    have LT := Lib.hid (fun i j (e : findC ds con = some (i, j)) => findD_lt (fun _ c => decide (c.name = con)) ds 0 i j e)
    have FA : Hid (famC ds con = match findC ds con with | some (i, _) => (ds.getD i default).cons | none => []) := Lib.hid rfl
    unfold FdP at FN
    unfold CcP at FM
    generalize famC ds con = fam at *
    generalize findC ds con = r at *
    have VS0 := Lib.hid (dts_src (n := n) (by rw [HN.out]; exact H.out) HN.out)
    have ONE := Lib.hid (dts_one H.out)
    have LEN : Hid ((ds.flatMap Dt.cells).length = n * 3) := Lib.hid (by rw [HN.out]; exact cells3_len ds)
    have CPY : Hid (∀ w' B u, w'.ownsRow B 30 3 u n (ds.flatMap Dt.cells) → Below w.heap.size w w' → DtsAt w' u ds) := Lib.hid fun w' B u hr b => dts_copy H.out (by rw [← HN.out]; exact hr) b
    obtain ⟨VS, hVS⟩ : ∃ VS, VS = ds.flatMap Dt.cells := ⟨_, rfl⟩
    rw [← hVS] at VS0 ONE LEN CPY
    have HK : Hid (0 + n ≤ maxLen ∧ (0 + n) * 48 ≤ 140737488355328) := Lib.hid (by constructor; unfold maxLen; omega; omega)
    have BE2 : Hid (Below w.heap.size w (w2.alloc (.cells #[] 30))) := Lib.hid (B2.out.trans ((box_keep _).mono B2.out.size))
    clear hVS FB AW
    go_wp2_with ((at_builtin; refine wpList_append_any _ rfl _ _ 22 rfl w2.heap.size 30 i0 (.agg #[.string ⟨#[]⟩, .int .i64 0, .slice none 0 0]) 3 48 Tryd.underlying22 HI.out.1 HI.out.2.1 HI.out.2.2.1 HI.out.2.2.2 rfl (by decide) (.slice (some ⟨w2.heap.size, 0, none⟩) 0 0) 0 [] rfl (World.ownsRow_made w2 #[] 0 (Nat.le_refl _) (Nat.zero_le _) rfl) lq n lc VS rfl LEN.out (VS0.out _ BE2.out) ONE.out HK.out.1 HK.out.2 (by simp) ?_; intro p4 cap4 w4 hown hgrow hblk; rw [Nat.zero_add] at hown; simp only [Nat.zero_add]; have R4 := Lib.hid hown; have B4 := Lib.hid (BE2.out.grown hgrow BE2.out.size fun g e => (by (simp [Value.ownBlock] at e; have := B2.out.size; omega))); clear hown hgrow hblk))
    have D4 := CPY.out _ _ _ (show w4.ownsRow w2.heap.size 30 3 (.slice p4 n cap4) n VS from R4.out) B4.out
    have C5 := Lib.hid (FN.out w4 _ D4)
    clear D4 R4 FN
    go_wp2_with fail
    refine C5.out.mono ?_
    rintro e w5 ⟨rfl, b5⟩
    have B5 := Lib.hid (B4.out.trans (b5.mono B4.out.size))
    have C6 := Lib.hid (RF.out w5 B5.out)
    clear b5 C5 RF
    have BE5 : Hid (Below w.heap.size w (w5.alloc (.cells #[] 30))) := Lib.hid (B5.out.trans ((box_keep _).mono B5.out.size))
    rcases r with _ | ⟨i, j⟩
    · simp only at FA
      unfold RfP fndE at C6
      unfold fndE
      go_wp2_with fail
      refine C6.out.mono ?_
      rintro e w6 ⟨rfl, rfl⟩
      clear C6
      go_wp2_with ((at_builtin; refine wpList_append_any _ rfl _ _ 22 rfl w5.heap.size 30 i0 (.agg #[.string ⟨#[]⟩, .int .i64 0, .slice none 0 0]) 3 48 Tryd.underlying22 HI.out.1 HI.out.2.1 HI.out.2.2.1 HI.out.2.2.2 rfl (by decide) (.slice (some ⟨w5.heap.size, 0, none⟩) 0 0) 0 [] rfl (World.ownsRow_made w5 #[] 0 (Nat.le_refl _) (Nat.zero_le _) rfl) lq n lc VS rfl LEN.out (VS0.out _ BE5.out) ONE.out HK.out.1 HK.out.2 (by simp) ?_; intro p7 cap7 w7 hown hgrow hblk; rw [Nat.zero_add] at hown; simp only [Nat.zero_add]; have R7 := Lib.hid hown; have B7 := Lib.hid (BE5.out.grown hgrow BE5.out.size fun g e => (by (simp [Value.ownBlock] at e; have := B5.out.size; omega))); clear hown hgrow hblk))
      have D7 := CPY.out _ _ _ (show w7.ownsRow w5.heap.size 30 3 (.slice p7 n cap7) n VS from R7.out) B7.out
      have C8 := Lib.hid (FM.out w7 _ D7)
      clear D7 R7 FM
      go_wp2_with fail
      refine C8.out.mono ?_
      rintro e w8 ⟨v8, rfl, h8, b8⟩
      rw [FA.out] at h8
      have F := Lib.hid (E.out _ (B7.out.trans (b8.mono B7.out.size)))
      obtain ⟨q8, c8, rfl⟩ := h8.form
      clear h8 b8 C8
      go_wp2
      first | go_ret | skip
      exact F.out
    · simp only at FA
      obtain ⟨_, hi, _⟩ := LT.out i j rfl
      rw [Nat.sub_zero, ← HN.out] at hi
      unfold RfP fndE at C6
      unfold fndE
      obtain ⟨b, o, c, e, hb, c0, c1, cw⟩ := H.out.cell i (by rw [← HN.out]; exact hi)
      simp only [Value.slice.injEq] at e
      obtain ⟨rfl, -, -⟩ := e
      have DM := getD_mem ds i (by rw [← HN.out]; exact hi)
      have CF := Lib.hid (H.out.2 _ DM)
      have FCD := FD.out.2 _ DM
      obtain ⟨d, hd⟩ : ∃ d, d = ds.getD i default := ⟨_, rfl⟩
      rw [← hd] at cw CF FCD FA
      obtain ⟨lq2, lc2, ecv⟩ := CF.out.form
      obtain ⟨m, hm⟩ : ∃ m, m = d.cons.length := ⟨_, rfl⟩
      have m70 : m ≤ 70 := by rw [hm]; exact FCD.2.1
      rw [← hm] at ecv
      rw [ecv] at cw
      have HM := Lib.hid hm
      have ECV := Lib.hid ecv
      have CW := Lib.hid cw
      have HBO := Lib.hid hb
      have FC3 := Lib.hid FCD.2.2
      clear DM hd ecv hm FCD hb c0 c1 cw LT
      go_wp2_with fail
      refine C6.out.mono ?_
      rintro e w6 ⟨rfl, rfl⟩
      clear C6
      go_wp2_with ((at_builtin; refine wpList_append_any _ rfl _ _ 22 rfl w5.heap.size 30 i0 (.agg #[.string ⟨#[]⟩, .int .i64 0, .slice none 0 0]) 3 48 Tryd.underlying22 HI.out.1 HI.out.2.1 HI.out.2.2.1 HI.out.2.2.2 rfl (by decide) (.slice (some ⟨w5.heap.size, 0, none⟩) 0 0) 0 [] rfl (World.ownsRow_made w5 #[] 0 (Nat.le_refl _) (Nat.zero_le _) rfl) (some ⟨b, o, none⟩) n lc VS rfl LEN.out (VS0.out _ BE5.out) ONE.out HK.out.1 HK.out.2 (by simp) ?_; intro p7 cap7 w7 hown hgrow hblk; rw [Nat.zero_add] at hown; simp only [Nat.zero_add]; have R7 := Lib.hid hown; have B7 := Lib.hid (BE5.out.grown hgrow BE5.out.size fun g e => (by (simp [Value.ownBlock] at e; have := B5.out.size; omega))); clear hown hgrow hblk))
      have D7 := CPY.out _ _ _ (show w7.ownsRow w5.heap.size 30 3 (.slice p7 n cap7) n VS from R7.out) B7.out
      have C8 := Lib.hid (FM.out w7 _ D7)
      clear D7 R7 FM
      go_wp2_with fail
      refine C8.out.mono ?_
      rintro e w8 ⟨v8, rfl, h8, b8⟩
      rw [FA.out] at h8
      have B8 := Lib.hid (B7.out.trans (b8.mono B7.out.size))
      have F8 := Lib.hid h8
      obtain ⟨q8, c8, rfl⟩ := h8.form
      have c2 := (B8.out.cell (p := ⟨b, o + i * 3 + 2, none⟩) HBO.out).trans CW.out
      rw [← HM.out] at F8 ⊢
      clear h8 b8 C8 FA
      go_wp2
      go_loopw [12] (fun s12 wr => ∃ a : Nat, a ≤ m ∧ s12 = .int .i64 a ∧ Hid (Below w8.heap.size w8 wr)) (fun s12 _ => m - (intOf s12).toNat)
      case atStart => exact ⟨0, Nat.zero_le _, rfl, Lib.hid (Below.refl _ _)⟩
      case round =>
        obtain ⟨wo, hwo⟩ : ∃ wo : World, wo = wr := ⟨_, rfl⟩
        subst hwo
        obtain ⟨a, ha, rfl, hB⟩ := hrel
        clear c2
        by_cases hlt : a < m
        · have t1 : decide ((a : Int) < (m : Int)) = true := by simpa using hlt
          have CT := F8.out.cell a (by rw [← HM.out]; exact hlt)
          obtain ⟨b1, o1, cc1, e1, hb1, x0, x1⟩ := CT
          simp only [Value.slice.injEq] at e1
          obtain ⟨rfl, -, -⟩ := e1
          obtain ⟨b2, o2, cc2, e2, hb2, y0, y1⟩ := CF.out.cell a (by rw [← HM.out]; exact hlt)
          rw [ECV.out] at e2
          simp only [Value.slice.injEq] at e2
          obtain ⟨rfl, -, -⟩ := e2
          have CM := getD_mem d.cons a (by rw [← HM.out]; exact hlt)
          have LA := F8.out.2 _ CM
          have FCT := FC3.out _ CM
          obtain ⟨ct, hct⟩ : ∃ ct, ct = d.cons.getD a default := ⟨_, rfl⟩
          rw [← hct] at x0 x1 y0 y1 LA FCT
          obtain ⟨aq, ac, eav⟩ := LA.form
          obtain ⟨z, hz⟩ : ∃ z, z = ct.args.length := ⟨_, rfl⟩
          rw [← hz] at eav
          rw [eav] at x1 y1 LA
          obtain ⟨cn, hcn⟩ : ∃ cn, cn = ct.name := ⟨_, rfl⟩
          rw [← hcn] at x0 y0
          have BW := Lib.hid (B8.out.trans (hB.out.mono B8.out.size))
          have TY : Hid (∀ W, Below wo.heap.size wo W → Calls Tryd.prog 12 #[.slice aq z ac, .slice aq z ac] W fun e w' => e = .returned (.bool true) ∧ Below W.heap.size W w') := Lib.hid fun W hW => by
            have hl := LA.below (hB.out.trans (hW.mono hB.out.size))
            have := types_any _ _ ct.args ct.args W hl hl (by have := FCT.2.1; omega) (fun t ht => by have := (FCT.2.2 t ht).1; omega)
            rw [decide_eq_true rfl] at this
            exact this
          have a0 := (hB.out.cell (p := ⟨b1, o1 + a * 2, none⟩) hb1).trans x0
          have a1 := (hB.out.cell (p := ⟨b1, o1 + a * 2 + 1, none⟩) hb1).trans x1
          have a2 := (BW.out.cell (p := ⟨b2, o2 + a * 2, none⟩) hb2).trans y0
          have a3 := (BW.out.cell (p := ⟨b2, o2 + a * 2 + 1, none⟩) hb2).trans y1
          have a4 := (BW.out.cell (p := ⟨b, o + i * 3 + 2, none⟩) HBO.out).trans CW.out
          clear CM LA FCT hct eav hz hcn x0 x1 y0 y1 hb1 hb2
          go_wp2
          have e0 := cell_regrown a0
          have e1 := cell_regrown a1
          have e2 := cell_regrown a2
          have e3 := cell_regrown a3
          have e4 := cell_regrown a4
          clear a0 a1 a2 a3 a4
          refine wp_region_quiet_below (by kernel_rfl) (by kernel_rfl) ?_
          repeat (go_big_quiet_step ((go_at_call 12; with_reducible exact Calls.regrown_of (TY.out _ (below_regrown wo _ _)))))
          refine wpQuiet_nil ?_
          intro _ hw'
          obtain ⟨⟨dq, osq⟩, hw''⟩ := hw'
          subst hw''
          have B5 := Lib.hid (hB.out.trans ((below_regrown wo dq osq).mono hB.out.size))
          clear e0 e1 e2 e3 e4 TY
          go_wp2
          go_roundw
          case rel => exact ⟨a + 1, hlt, by go_num, B5⟩
          case measure => simp [intOf]; omega
        · obtain rfl : a = m := by omega
          have t1 : decide ((a : Int) < (a : Int)) = false := by simp
          have F := Lib.hid (E.out _ (B8.out.trans (hB.out.mono B8.out.size)))
          clear hB
          go_wp2
          first | go_ret | skip
          exact F.out
end Go.Proofs.YtncifeeinogcnaaDoor
