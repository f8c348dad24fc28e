/- Texts of this seat, one behind the other: DmM. -/
import Derived.Test.YtncifeeinogcnaaDoorKn35
import Derived.Test.YtncifeeinogcnaaDoorKn37
import Derived.Deep.RegionLaw
import Derived.Deep.RegionWith
import Derived.BigRegion
import Derived.Deep.DeepCutAuto
import Derived.Deep.CutRange
/- The law's walk: what may be stays so with one more. -/
set_option maxRecDepth 100000
namespace Go.Proofs.YtncifeeinogcnaaDoor
open Go.Shelf Go.RowKit Go.Lib Go.Sort Go.Maps Go.Proofs.TreeMath Go.Proofs.LexMath

theorem one_dts {w : World} (d : Dt) (cq : Option Addr) (m cc : Nat) (e : d.cv = .slice cq m cc) (h : CtsAt w d.cv d.cons) : DtsAt (w.alloc (.cells #[.string d.name, .int .i64 d.params, .slice cq m cc] 30)) (.slice (some ⟨w.heap.size, 0, none⟩) 1 1) [d] := by
  refine ⟨?_, fun x hx => ?_⟩
  · have := lit_slice w #[.string d.name, .int .i64 d.params, .slice cq m cc] 30 3 1 rfl (by decide)
    simpa [Dt.cells, e] using this
  · rw [List.mem_singleton] at hx
    subst hx
    exact h.below (box_keep _)
set_option maxHeartbeats 8000000 in
theorem more_walk (lv : Value) (ds : List Dt) (d : Dt) (w : World) (h : DtsAt w lv ds) (hd : CtsAt w d.cv d.cons) (HT : TabW w) : Calls Tryd.prog 6 #[lv, d.val] w (RBt w) := by
  obtain ⟨i0, hi, hz0, hz1, hz2⟩ := infoD
  have HI := Lib.hid (And.intro hi (And.intro hz0 (And.intro hz1 hz2)))
  have AW := Lib.hid (fun w' (h : Below w.heap.size w w') => awake10_any w' (HT.after h))
  have E : Hid (∀ w', Below w.heap.size w w' → RBt w (.returned (.bool true)) w') := Lib.hid fun w' h => ⟨rfl, h⟩
  have H := Lib.hid h
  have FW := Lib.hid (fun W (hW : Below w.heap.size w W) => dfew_any lv ds W (h.below hW))
  obtain ⟨lq, lc, rfl⟩ := h.form
  obtain ⟨n, hnn⟩ : ∃ n, n = ds.length := ⟨_, rfl⟩
  have HN := Lib.hid hnn
  rw [← hnn] at FW ⊢
  obtain ⟨cq, cc, ecv⟩ := hd.form
  have ONED := Lib.hid (fun W (hW : Below w.heap.size w W) => one_dts d cq d.cons.length cc ecv (hd.below hW))
  have MORE : Hid (∀ wF p c, Below w.heap.size w wF → ∀ B, wF.ownsRow B 30 3 (.slice p (n + 1) c) (n + 1) ((ds.flatMap Dt.cells) ++ [.string d.name, .int .i64 d.params, .slice cq d.cons.length cc]) → DtsAt wF (.slice p (n + 1) c) (ds ++ [d])) := Lib.hid fun wF p c hb B hr => by
    refine ⟨?_, fun x hx => ?_⟩
    · have := SliceAt.of_owns hr
      rw [List.length_append, List.length_singleton, ← hnn, List.flatMap_append]
      simpa [Dt.cells, ecv] using this
    · rcases List.mem_append.1 hx with hx | hx
      · exact (H.out.2 x hx).below hb
      · rw [List.mem_singleton] at hx
        subst hx
        exact hd.below hb
  unfold Dt.val
  rw [ecv]
  obtain ⟨m, hm⟩ : ∃ m, m = d.cons.length := ⟨_, rfl⟩
  obtain ⟨dn, hdn⟩ : ∃ dn, dn = d.name := ⟨_, rfl⟩
  obtain ⟨dp, hdp⟩ : ∃ dp, dp = d.params := ⟨_, rfl⟩
  rw [← hm, ← hdn, ← hdp] at ONED MORE ⊢
  obtain ⟨wb, hwb⟩ : ∃ wb, wb = w.alloc (.cells #[.string dn, .int .i64 dp, .slice cq m cc] 30) := ⟨_, rfl⟩
  have X := heap_alloc_new w (.cells #[.string dn, .int .i64 dp, .slice cq m cc] 30)
  have BA : Hid (Below w.heap.size w wb) := Lib.hid (by rw [hwb]; exact box_keep _)
  rw [← hwb] at X
  have HW := Lib.hid hwb
  have hlt0 : w.heap.size < wb.heap.size := (Array.getElem?_eq_some_iff.1 X).1
  have FR : Hid (∀ wr, Below wb.heap.size wb wr → wr.cell? ⟨w.heap.size, 0, none⟩ = some (.string dn) ∧ wr.cell? ⟨w.heap.size, 1, none⟩ = some (.int .i64 dp) ∧ wr.cell? ⟨w.heap.size, 2, none⟩ = some (.slice cq m cc)) := Lib.hid fun wr hb => by
    have h0 := Lib.cell_of_heap X 0
    have h1 := Lib.cell_of_heap X 1
    have h2 := Lib.cell_of_heap X 2
    exact ⟨(hb.cell (p := ⟨w.heap.size, 0, none⟩) hlt0).trans h0, (hb.cell (p := ⟨w.heap.size, 1, none⟩) hlt0).trans h1, (hb.cell (p := ⟨w.heap.size, 2, none⟩) hlt0).trans h2⟩
  have WW : Hid (∀ X, Below wb.heap.size wb X → Below w.heap.size w X) := Lib.hid fun X hX => BA.out.trans (hX.mono BA.out.size)
  generalize RBt w = Z at E ⊢
  clear h hnn HT hi hz0 hz1 hz2 hd ecv hm hdn hdp hwb X
  go_enter Tryd.func6, Tryd.ntmps6
  go_wp2_with fail
  rw [← HW.out]
  refine (AW.out wb BA.out).mono ?_
  rintro e w1 ⟨rfl, b1⟩
  have B1 := Lib.hid b1
  clear b1
  go_wp2_with fail
  refine (FW.out w1 (WW.out _ B1.out)).mono ?_
  rintro e w2 ⟨fb, rfl, hfb, b2⟩
  have B2 := Lib.hid (B1.out.trans (b2.mono B1.out.size))
  have FB := Lib.hid hfb
  clear b2 hfb FW
  cases fb with
  | false =>
    clear FB
    go_wp2_with fail
    refine (AW.out w2 (WW.out _ B2.out)).mono ?_
    rintro e w3 ⟨rfl, b3⟩
    have F := Lib.hid (E.out _ (WW.out _ (B2.out.trans (b3.mono B2.out.size))))
    clear b3
    go_wp2
    first | go_ret | skip
    exact F.out
  | true =>
    have FD := Lib.hid (FB.out rfl)
    have n70 : n ≤ 70 := by rw [HN.out]; exact FD.out.1
    obtain ⟨x0, x1, x2⟩ := FR.out w2 B2.out
    have BL2 : Hid (Below wb.heap.size wb (w2.alloc (.cells #[.string dn, .int .i64 dp, .slice cq m cc] 30))) := Lib.hid (B2.out.trans ((box_keep _).mono B2.out.size))
    have F1 := Lib.hid (dfew_any _ [d] _ (ONED.out w2 (WW.out _ B2.out)))
    clear FB
    go_wp2_with fail
    refine F1.out.mono ?_
    rintro e w3 ⟨fc, rfl, hfc, b3⟩
    have B3 := Lib.hid (BL2.out.trans (b3.mono BL2.out.size))
    have FC := Lib.hid hfc
    clear b3 hfc F1 x0 x1 x2
    cases fc with
    | false =>
      clear FC
      go_wp2_with fail
      refine (AW.out w3 (WW.out _ B3.out)).mono ?_
      rintro e w4 ⟨rfl, b4⟩
      have F := Lib.hid (E.out _ (WW.out _ (B3.out.trans (b4.mono B3.out.size))))
      clear b4
      go_wp2
      first | go_ret | skip
      exact F.out
    | true =>
      have FE := Lib.hid (FC.out rfl)
      have TD : Hid (∀ x ∈ ds ++ [d], TinyD x) := Lib.hid fun x hx => by
        rcases List.mem_append.1 hx with hx | hx
        · exact few_tiny (FD.out.2 x hx)
        · exact few_tiny (FE.out.2 x hx)
      have DC := Lib.hid (fun W v (L : List Dt) (hl : L.length ≤ 1000) (ht : ∀ x ∈ L, TinyD x) (hW : DtsAt W v L) => dcheck_any v L W hW (by omega) ht)
      unfold CdP at DC
      have VS0 := Lib.hid (dts_src (n := n) (by rw [HN.out]; exact H.out) HN.out)
      have ONE := Lib.hid (dts_one H.out)
      have LEN : Hid ((ds.flatMap Dt.cells).length = n * 3) := Lib.hid (by rw [HN.out]; exact cells3_len ds)
      have CPY : Hid (∀ w' B u, w'.ownsRow B 30 3 u n (ds.flatMap Dt.cells) → Below w.heap.size w w' → DtsAt w' u ds) := Lib.hid fun w' B u hr b => dts_copy H.out (by rw [← HN.out]; exact hr) b
      obtain ⟨VS, hVS⟩ : ∃ VS, VS = ds.flatMap Dt.cells := ⟨_, rfl⟩
      rw [← hVS] at VS0 ONE LEN CPY MORE
      have HK : Hid (0 + n ≤ maxLen ∧ (0 + n) * 48 ≤ 140737488355328) := Lib.hid (by constructor; unfold maxLen; omega; omega)
      have BE3 : Hid (Below wb.heap.size wb (w3.alloc (.cells #[] 30))) := Lib.hid (B3.out.trans ((box_keep _).mono B3.out.size))
      clear hVS FC
      go_wp2_with ((at_builtin; refine wpList_append_if _ (by simp [go_sem]) _ _ 22 rfl w3.heap.size 30 i0 (.agg #[.string ⟨#[]⟩, .int .i64 0, .slice none 0 0]) 3 48 Tryd.underlying22 HI.out.1 HI.out.2.1 HI.out.2.2.1 HI.out.2.2.2 rfl (by decide) (.slice (some ⟨w3.heap.size, 0, none⟩) 0 0) 0 [] rfl (World.ownsRow_made w3 #[] 0 (Nat.le_refl _) (Nat.zero_le _) rfl) lq n lc VS rfl LEN.out (VS0.out _ (WW.out _ BE3.out)) ONE.out HK.out.1 HK.out.2 (by simp) ?_; intro p4 cap4 w4 hown hgrow hblk; rw [Nat.zero_add] at hown; simp only [Nat.zero_add]; have R4 := Lib.hid hown; have B4 := Lib.hid (BE3.out.grown hgrow BE3.out.size fun g e => (by (simp [Value.ownBlock] at e; have := B3.out.size; omega))); clear hown hgrow hblk))
      have D4 := CPY.out _ _ _ (show w4.ownsRow w3.heap.size 30 3 (.slice p4 n cap4) n VS from R4.out) (WW.out _ B4.out)
      have C5 := Lib.hid (DC.out w4 _ ds (by rw [← HN.out]; omega) (fun x hx => TD.out x (List.mem_append_left _ hx)) D4)
      clear D4 R4
      obtain ⟨k0, hk0⟩ : ∃ k0, k0 = checkD ds := ⟨_, rfl⟩
      rw [← hk0] at C5
      by_cases hk : k0 = 0
      · subst hk
        have t0 : ((0 : Int) != 0) = false := by simp
        have CM := Lib.hid (check_more ds d hk0.symm)
        clear hk0
        go_wp2_with fail
        refine C5.out.mono ?_
        rintro e w5 ⟨rfl, b5⟩
        have B5 := Lib.hid (B4.out.trans (b5.mono B4.out.size))
        clear b5 C5 AW
        obtain ⟨nn, hnn⟩ : ∃ nn, nn = n + 1 := ⟨_, rfl⟩
        rw [← hnn] at MORE
        have HNN := Lib.hid hnn
        have nn71 : nn ≤ 71 := by omega
        clear hnn
        go_wp2
        go_cut [5] from 29 to 34 (fun s5 wx => ∃ p c, s5 = .slice p nn c ∧ Hid (DtsAt wx (.slice p nn c) (ds ++ [d])) ∧ Hid (Below wb.heap.size wb wx))
        case first =>
          obtain ⟨x0, x1, x2⟩ := FR.out w5 B5.out
          have y0 : w5.drew.cell? ⟨w.heap.size, 0, none⟩ = some (.string dn) := x0
          have y1 : w5.drew.cell? ⟨w.heap.size, 1, none⟩ = some (.int .i64 dp) := x1
          have y2 : w5.drew.cell? ⟨w.heap.size, 2, none⟩ = some (.slice cq m cc) := x2
          have BD : Hid (Below wb.heap.size wb w5.drew) := Lib.hid B5.out.drew
          have SZ1 : Hid ((w5.drew.alloc (.cells #[] 30)).heap.size = w5.heap.size + 1) := Lib.hid (by simp)
          have SZ2 : Hid ((w5.drew.alloc (.cells #[.string dn, .int .i64 dp, .slice cq m cc] 30)).heap.size = w5.heap.size + 1) := Lib.hid (by simp)
          have A1 : Hid ((w5.drew.alloc (.cells #[] 30)).ownsRow w5.heap.size 30 3 (.slice (some ⟨w5.heap.size, 0, none⟩) 0 0) 0 []) := Lib.hid (World.ownsRow_made w5.drew #[] 0 (Nat.le_refl _) (Nat.zero_le _) rfl)
          have X1 : Hid (Below wb.heap.size wb (w5.drew.alloc (.cells #[] 30))) := Lib.hid (BD.out.trans ((box_keep _).mono BD.out.size))
          have A2 : Hid (((w5.drew.alloc (.cells #[] 30)).alloc (.cells #[.string dn, .int .i64 dp, .slice cq m cc] 30)).ownsRow w5.heap.size 30 3 (.slice (some ⟨w5.heap.size, 0, none⟩) 0 0) 0 []) := Lib.hid (World.ownsRow.keep A1.out fun g hg => (box_keep _).block g (World.ownsRow.there A1.out hg).2)
          have X2 : Hid (Below wb.heap.size wb ((w5.drew.alloc (.cells #[] 30)).alloc (.cells #[.string dn, .int .i64 dp, .slice cq m cc] 30))) := Lib.hid (X1.out.trans ((box_keep _).mono X1.out.size))
          have X3a : Hid (Below wb.heap.size wb (w5.drew.alloc (.cells #[.string dn, .int .i64 dp, .slice cq m cc] 30))) := Lib.hid (BD.out.trans ((box_keep _).mono BD.out.size))
          have A3 : Hid (((w5.drew.alloc (.cells #[.string dn, .int .i64 dp, .slice cq m cc] 30)).alloc (.cells #[] 30)).ownsRow w5.heap.size 30 3 (.slice (some ⟨w5.heap.size + 1, 0, none⟩) 0 0) 0 []) := Lib.hid (by
            have := World.ownsRow_made (w5.drew.alloc (.cells #[.string dn, .int .i64 dp, .slice cq m cc] 30)) #[] 0 (show w5.heap.size ≤ _ by rw [SZ2.out]; omega) (Nat.zero_le _) rfl (base := w5.heap.size) (e := 30) (size := 3)
            rw [SZ2.out] at this
            exact this)
          have X3 : Hid (Below wb.heap.size wb ((w5.drew.alloc (.cells #[.string dn, .int .i64 dp, .slice cq m cc] 30)).alloc (.cells #[] 30))) := Lib.hid (X3a.out.trans ((box_keep _).mono X3a.out.size))
          have SB5 : Hid (wb.heap.size ≤ w5.heap.size) := Lib.hid B5.out.size
          have SBX1 : Hid (w5.heap.size ≤ (w5.drew.alloc (.cells #[] 30)).heap.size) := Lib.hid (by rw [SZ1.out]; omega)
          have SBX2 : Hid (w5.heap.size ≤ ((w5.drew.alloc (.cells #[] 30)).alloc (.cells #[.string dn, .int .i64 dp, .slice cq m cc] 30)).heap.size) := Lib.hid (Nat.le_trans SBX1.out (box_keep _).size)
          have SBX3 : Hid (w5.heap.size ≤ ((w5.drew.alloc (.cells #[.string dn, .int .i64 dp, .slice cq m cc] 30)).alloc (.cells #[] 30)).heap.size) := Lib.hid (Nat.le_trans (by rw [SZ2.out]; omega) (box_keep _).size)
          have ONEL : Hid (∀ u ∈ ([.string dn, .int .i64 dp, .slice cq m cc] : List Value), u.oneCell' = true) := Lib.hid (by intro u hu; simp only [List.mem_cons, List.not_mem_nil, or_false] at hu; rcases hu with rfl | rfl | rfl <;> rfl)
          have HKN : Hid (n + 1 ≤ maxLen ∧ (n + 1) * 48 ≤ 140737488355328) := Lib.hid (by constructor; unfold maxLen; omega; omega)
          have G2 : Hid (∀ W, ((w5.drew.alloc (.cells #[] 30)).alloc (.cells #[.string dn, .int .i64 dp, .slice cq m cc] 30)).grownBy W (Value.slice (some ⟨w5.heap.size, 0, none⟩) 0 0).ownBlock → ∀ j u, ([.string dn, .int .i64 dp, .slice cq m cc] : List Value)[j]? = some u → W.cell? ((⟨w5.heap.size + 1, 0, none⟩ : Addr).add j) = some u) := Lib.hid fun W hg => by
            have h0 := heap_alloc_new (w5.drew.alloc (.cells #[] 30)) (.cells #[.string dn, .int .i64 dp, .slice cq m cc] 30)
            rw [SZ1.out] at h0
            have h1 := (hg.block (w5.heap.size + 1) (Array.getElem?_eq_some_iff.1 h0).1 (by simp [Value.ownBlock])).trans h0
            have hc : CellsIn W (w5.heap.size + 1) 0 [.string dn, .int .i64 dp, .slice cq m cc] := fun j u hj => by rw [Lib.cell_of_heap h1]; simpa using hj
            exact CellsIn.at hc
          have G3 : Hid (∀ W, ((w5.drew.alloc (.cells #[.string dn, .int .i64 dp, .slice cq m cc] 30)).alloc (.cells #[] 30)).grownBy W (Value.slice (some ⟨w5.heap.size + 1, 0, none⟩) 0 0).ownBlock → ∀ j u, ([.string dn, .int .i64 dp, .slice cq m cc] : List Value)[j]? = some u → W.cell? ((⟨w5.heap.size, 0, none⟩ : Addr).add j) = some u) := Lib.hid fun W hg => by
            have h0 : ((w5.drew.alloc (.cells #[.string dn, .int .i64 dp, .slice cq m cc] 30)).alloc (.cells #[] 30)).heap[w5.heap.size]? = some (.cells #[.string dn, .int .i64 dp, .slice cq m cc] 30 (0, 0)) := ((box_keep _).block w5.heap.size (by rw [SZ2.out]; omega)).trans (heap_alloc_new w5.drew (.cells #[.string dn, .int .i64 dp, .slice cq m cc] 30))
            have h1 := (hg.block w5.heap.size (Array.getElem?_eq_some_iff.1 h0).1 (by simp [Value.ownBlock])).trans h0
            have hc : CellsIn W w5.heap.size 0 [.string dn, .int .i64 dp, .slice cq m cc] := fun j u hj => by rw [Lib.cell_of_heap h1]; simpa using hj
            exact CellsIn.at hc
          obtain ⟨f0, f1, f2⟩ := FR.out (w5.alloc (.cells #[] 30)) (B5.out.trans ((box_keep _).mono B5.out.size))
          obtain ⟨h0, h1, h2⟩ := FR.out ((w5.alloc (.cells #[] 30)).alloc (.cells #[.string dn, .int .i64 dp, .slice cq m cc] 30)) ((B5.out.trans ((box_keep _).mono B5.out.size)).trans ((box_keep _).mono (B5.out.trans ((box_keep _).mono B5.out.size)).size))
          go_region_law ((first
            | (refine step_append_any (by rfl) _ _ 22 (by rfl) w5.heap.size 30 i0 (.agg #[.string ⟨#[]⟩, .int .i64 0, .slice none 0 0]) 3 48 Tryd.underlying22 HI.out.1 HI.out.2.1 HI.out.2.2.1 HI.out.2.2.2 rfl (by decide) (.slice (some ⟨w5.heap.size, 0, none⟩) 0 0) 0 [] rfl A1.out lq n lc VS rfl LEN.out (VS0.out _ (WW.out _ X1.out)) ONE.out HK.out.1 HK.out.2 SBX1.out ?_; intro p6 cap6 w6 hown hgrow hblk; rw [Nat.zero_add] at hown; simp only [Nat.zero_add]; have S6 := Lib.hid (Nat.le_trans SBX1.out hgrow.size); have R6 := Lib.hid hown; have B6 := Lib.hid (X1.out.grown hgrow X1.out.size fun g e => Nat.le_trans SB5.out (World.ownsRow.there A1.out e).1); obtain ⟨z0, z1, z2⟩ := FR.out w6 B6.out; clear hown hgrow hblk)
            | (refine step_append_any (by rfl) _ _ 22 (by rfl) w5.heap.size 30 i0 (.agg #[.string ⟨#[]⟩, .int .i64 0, .slice none 0 0]) 3 48 Tryd.underlying22 HI.out.1 HI.out.2.1 HI.out.2.2.1 HI.out.2.2.2 rfl (by decide) (.slice (some ⟨w5.heap.size, 0, none⟩) 0 0) 0 [] rfl A2.out lq n lc VS rfl LEN.out (VS0.out _ (WW.out _ X2.out)) ONE.out HK.out.1 HK.out.2 SBX2.out ?_; intro p6 cap6 w6 hown hgrow hblk; rw [Nat.zero_add] at hown; simp only [Nat.zero_add]; have S6 := Lib.hid (Nat.le_trans SBX2.out hgrow.size); have R6 := Lib.hid hown; have B6 := Lib.hid (X2.out.grown hgrow X2.out.size fun g e => Nat.le_trans SB5.out (World.ownsRow.there A2.out e).1); obtain ⟨z0, z1, z2⟩ := FR.out w6 B6.out; have LC6 := Lib.hid (G2.out _ hgrow); clear hown hgrow hblk)
            | (refine step_append_any (by rfl) _ _ 22 (by rfl) w5.heap.size 30 i0 (.agg #[.string ⟨#[]⟩, .int .i64 0, .slice none 0 0]) 3 48 Tryd.underlying22 HI.out.1 HI.out.2.1 HI.out.2.2.1 HI.out.2.2.2 rfl (by decide) (.slice (some ⟨w5.heap.size + 1, 0, none⟩) 0 0) 0 [] rfl A3.out lq n lc VS rfl LEN.out (VS0.out _ (WW.out _ X3.out)) ONE.out HK.out.1 HK.out.2 SBX3.out ?_; intro p6 cap6 w6 hown hgrow hblk; rw [Nat.zero_add] at hown; simp only [Nat.zero_add]; have S6 := Lib.hid (Nat.le_trans SBX3.out hgrow.size); have R6 := Lib.hid hown; have B6 := Lib.hid (X3.out.grown hgrow X3.out.size fun g e => Nat.le_trans SB5.out (World.ownsRow.there A3.out e).1); obtain ⟨z0, z1, z2⟩ := FR.out w6 B6.out; have LC6 := Lib.hid (G3.out _ hgrow); clear hown hgrow hblk)
            | (refine step_append_any (by rfl) _ _ 22 (by rfl) w5.heap.size 30 i0 (.agg #[.string ⟨#[]⟩, .int .i64 0, .slice none 0 0]) 3 48 Tryd.underlying22 HI.out.1 HI.out.2.1 HI.out.2.2.1 HI.out.2.2.2 rfl (by decide) (.slice p6 n cap6) n VS rfl R6.out (some ⟨w5.heap.size + 1, 0, none⟩) 1 1 [.string dn, .int .i64 dp, .slice cq m cc] rfl rfl (fun _ => ⟨_, rfl, LC6.out⟩) ONEL.out HKN.out.1 HKN.out.2 S6.out ?_; intro p8 cap8 w8 hown hgrow hblk; have R8 := Lib.hid hown; have B8 := Lib.hid ((B6.out).grown hgrow (B6.out).size fun g e => Nat.le_trans SB5.out (World.ownsRow.there R6.out e).1); clear hown hgrow hblk)
            | (refine step_append_any (by rfl) _ _ 22 (by rfl) w5.heap.size 30 i0 (.agg #[.string ⟨#[]⟩, .int .i64 0, .slice none 0 0]) 3 48 Tryd.underlying22 HI.out.1 HI.out.2.1 HI.out.2.2.1 HI.out.2.2.2 rfl (by decide) (.slice p6 n cap6) n VS rfl R6.out (some ⟨w5.heap.size, 0, none⟩) 1 1 [.string dn, .int .i64 dp, .slice cq m cc] rfl rfl (fun _ => ⟨_, rfl, LC6.out⟩) ONEL.out HKN.out.1 HKN.out.2 S6.out ?_; intro p8 cap8 w8 hown hgrow hblk; have R8 := Lib.hid hown; have B8 := Lib.hid ((B6.out).grown hgrow (B6.out).size fun g e => Nat.le_trans SB5.out (World.ownsRow.there R6.out e).1); clear hown hgrow hblk)
            | (refine step_append_any (by rfl) _ _ 22 (by rfl) w5.heap.size 30 i0 (.agg #[.string ⟨#[]⟩, .int .i64 0, .slice none 0 0]) 3 48 Tryd.underlying22 HI.out.1 HI.out.2.1 HI.out.2.2.1 HI.out.2.2.2 rfl (by decide) (.slice p6 n cap6) n VS rfl (World.ownsRow.keep R6.out fun g hg => (box_keep _).block g (World.ownsRow.there R6.out hg).2) (some ⟨w6.heap.size, 0, none⟩) 1 1 [.string dn, .int .i64 dp, .slice cq m cc] rfl rfl (fun _ => ⟨_, rfl, CellsIn.at (lit_at w6 _ _)⟩) ONEL.out HKN.out.1 HKN.out.2 (Nat.le_trans S6.out (box_keep _).size) ?_; intro p8 cap8 w8 hown hgrow hblk; have R8 := Lib.hid hown; have B8 := Lib.hid ((B6.out.trans ((box_keep _).mono B6.out.size)).grown hgrow (B6.out.trans ((box_keep _).mono B6.out.size)).size fun g e => Nat.le_trans SB5.out (World.ownsRow.there R6.out e).1); clear hown hgrow hblk)
            | fail))
          all_goals go_wp2_with fail
          all_goals go_meet
          all_goals exact ⟨p8, cap8, by rw [HNN.out], Lib.hid (by have := MORE.out w8 p8 cap8 (WW.out _ B8.out) w5.heap.size (by rw [HNN.out]; exact R8.out); rw [HNN.out] at this ⊢; exact this), B8⟩
        case rest =>
          obtain ⟨p5, c5, rfl, hD, hB⟩ := hcut
          obtain ⟨w6, hw6⟩ : ∃ w6 : World, w6 = wc := ⟨_, rfl⟩
          subst hw6
          have D6 := hD
          have B6 := hB
          clear hD hB MORE CPY VS0
          have VS1 := Lib.hid (fun W (hW : Below w6.heap.size w6 W) => dts_src (n := nn) (ds := ds ++ [d]) D6.out (by rw [List.length_append, List.length_singleton, HNN.out, HN.out]) W hW)
          have ONE1 := Lib.hid (dts_one D6.out)
          have LEN1 : Hid (((ds ++ [d]).flatMap Dt.cells).length = nn * 3) := Lib.hid (by rw [cells3_len, List.length_append, List.length_singleton, HNN.out, HN.out])
          have CPY1 : Hid (∀ w' B u, w'.ownsRow B 30 3 u nn ((ds ++ [d]).flatMap Dt.cells) → Below w6.heap.size w6 w' → DtsAt w' u (ds ++ [d])) := Lib.hid fun w' B u hr b => dts_copy D6.out (by rw [List.length_append, List.length_singleton, ← HN.out, ← HNN.out]; exact hr) b
          obtain ⟨VT, hVT⟩ : ∃ VT, VT = (ds ++ [d]).flatMap Dt.cells := ⟨_, rfl⟩
          rw [← hVT] at VS1 ONE1 LEN1 CPY1
          have HK1 : Hid (0 + nn ≤ maxLen ∧ (0 + nn) * 48 ≤ 140737488355328) := Lib.hid (by constructor; unfold maxLen; omega; omega)
          have BE6 : Hid (Below w6.heap.size w6 (w6.alloc (.cells #[] 30))) := Lib.hid (box_keep _)
          clear hVT
          go_wp2_with ((at_builtin; refine wpList_append_any _ rfl _ _ 22 rfl w6.heap.size 30 i0 (.agg #[.string ⟨#[]⟩, .int .i64 0, .slice none 0 0]) 3 48 Tryd.underlying22 HI.out.1 HI.out.2.1 HI.out.2.2.1 HI.out.2.2.2 rfl (by decide) (.slice (some ⟨w6.heap.size, 0, none⟩) 0 0) 0 [] rfl (World.ownsRow_made w6 #[] 0 (Nat.le_refl _) (Nat.zero_le _) rfl) p5 nn c5 VT rfl LEN1.out (VS1.out _ BE6.out) ONE1.out HK1.out.1 HK1.out.2 (by simp) ?_; intro p7 cap7 w7 hown hgrow hblk; rw [Nat.zero_add] at hown; simp only [Nat.zero_add]; have R7 := Lib.hid hown; have B7 := Lib.hid (BE6.out.grown hgrow BE6.out.size fun g e => (by (simp [Value.ownBlock] at e; omega))); clear hown hgrow hblk))
          have D7 := CPY1.out _ _ _ (show w7.ownsRow w6.heap.size 30 3 (.slice p7 nn cap7) nn VT from R7.out) B7.out
          have B7w := Lib.hid (B6.out.trans (B7.out.mono B6.out.size))
          have C8 := Lib.hid (DC.out w7 _ (ds ++ [d]) (by rw [List.length_append, List.length_singleton, ← HN.out]; omega) TD.out D7)
          clear D7 R7
          go_wp2_with fail
          refine C8.out.mono ?_
          rintro e w8 ⟨rfl, b8⟩
          have B8 := Lib.hid (B7w.out.trans (b8.mono B7w.out.size))
          obtain ⟨x0, x1, x2⟩ := FR.out w8 B8.out
          have BL8 : Hid (Below wb.heap.size wb (w8.alloc (.cells #[.string dn, .int .i64 dp, .slice cq m cc] 30))) := Lib.hid (B8.out.trans ((box_keep _).mono B8.out.size))
          have C9 := Lib.hid (DC.out _ _ [d] (by simp) (fun x hx => TD.out x (List.mem_append_right _ hx)) (ONED.out w8 (WW.out _ B8.out)))
          clear b8 C8
          generalize checkD (ds ++ [d]) = ke at *
          generalize checkD [d] = kf at *
          go_wp2_with fail
          refine C9.out.mono ?_
          rintro e w9 ⟨rfl, b9⟩
          have F := Lib.hid (E.out _ (WW.out _ (BL8.out.trans (b9.mono BL8.out.size))))
          clear b9 C9 x0 x1 x2
          rcases CM.out with ⟨hc, rfl⟩ | ⟨hf, hl, hc⟩
          · have u0 : ((100 : Int) == 100) = true := by simp
            by_cases hf : kf = 100
            · subst hf
              clear hc CM
              go_wp2
              first | go_ret | skip
              exact F.out
            · have u1 : (kf == 100) = false := by simpa using hf
              have u2 : decide ((60 : Int) < (nn : Int)) = true := decide_eq_true (by have h1 := HN.out; have h2 := HNN.out; rcases hc with hc | hc <;> omega)
              clear hc CM
              go_wp2
              first | go_ret | skip
              exact F.out
          · have u1 : (kf == 100) = false := by simpa using hf
            have u2 : decide ((60 : Int) < (nn : Int)) = false := decide_eq_false (by have h1 := HN.out; have h2 := HNN.out; omega)
            rcases hc with rfl | rfl | ⟨rfl, rfl⟩
            · have u3 : ((0 : Int) == 0) = true := by simp
              clear CM
              go_wp2
              first | go_ret | skip
              exact F.out
            · have u3 : ((101 : Int) == 0) = false := by decide
              have u4 : ((101 : Int) == 101) = true := by decide
              clear CM
              go_wp2
              first | go_ret | skip
              exact F.out
            · have u3 : ((102 : Int) == 0) = false := by decide
              have u4 : ((102 : Int) == 101) = false := by decide
              have u5 : ((102 : Int) == 102) = true := by decide
              clear CM
              go_wp2
              first | go_ret | skip
              exact F.out
      · have t0 : (k0 != 0) = true := by simpa using hk
        clear hk0
        go_wp2_with fail
        refine C5.out.mono ?_
        rintro e w5 ⟨rfl, b5⟩
        have B5 := Lib.hid (B4.out.trans (b5.mono B4.out.size))
        clear b5 C5
        go_wp2_with fail
        refine (AW.out w5 (WW.out _ B5.out)).mono ?_
        rintro e w6 ⟨rfl, b6⟩
        have F := Lib.hid (E.out _ (WW.out _ (B5.out.trans (b6.mono B5.out.size))))
        clear b6
        go_wp2
        first | go_ret | skip
        exact F.out
end Go.Proofs.YtncifeeinogcnaaDoor
