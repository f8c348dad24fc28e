/- The law's walk: each constructor's type takes what it has, and comes to its type. -/
import Derived.Test.YtncifeeinogcnaaDoorKn40
import Derived.Test.YtncifeeinogcnaaDoorKn35
import Derived.Deep.RegionHeld3
import Derived.IntWalk
import Derived.BigRegion
import Derived.Deep.RegionWith
set_option maxRecDepth 100000
namespace Go.Proofs.YtncifeeinogcnaaDoor
open Go.Shelf Go.RowKit Go.Lib Go.Sort Go.Maps Go.Proofs.TreeMath Go.Proofs.LexMath

theorem sgs_cell {w : World} {v : Value} {sl : List Sg} (h : SgsAt w v sl) (i : Nat) (hi : i < sl.length) : ∃ b off c, v = .slice (some ⟨b, off, none⟩) sl.length c ∧ b < w.heap.size ∧ w.cell? ⟨b, off + i * 2, none⟩ = some (.string (sl.getD i default).name) ∧ w.cell? ⟨b, off + i * 2 + 1, none⟩ = some (sl.getD i default).v ∧ NodesAt w (sl.getD i default).v (sl.getD i default).ty := by
  obtain ⟨⟨_, p, c, rfl, _, _, h4⟩, hp⟩ := h
  obtain ⟨b, off, rfl, hb, hc⟩ := h4 (by omega)
  have h0 := hc _ _ (flat_get Sg.cells 2 (fun _ => rfl) sl i hi 0 (by omega))
  have h1 := hc _ _ (flat_get Sg.cells 2 (fun _ => rfl) sl i hi 1 (by omega))
  exact ⟨b, off, c, rfl, hb, h0, h1, hp _ (getD_mem sl i hi)⟩
theorem SgsAt.form {w : World} {v : Value} {sl : List Sg} (h : SgsAt w v sl) : ∃ p c, v = .slice p sl.length c := by obtain ⟨⟨_, p, c, e, _⟩, _⟩ := h; exact ⟨p, c, e⟩
theorem callFi (vs : Array Value) (w : World) : (callFunc 9 vs).run Tryd.prog w = .ok (.enter 9 vs) w := run_callFunc Tryd.func9 (by kernel_rfl) (by kernel_rfl) vs w
theorem callTy (vs : Array Value) (w : World) : (callFunc 12 vs).run Tryd.prog w = .ok (.enter 12 vs) w := run_callFunc Tryd.func12 (by kernel_rfl) (by kernel_rfl) vs w
theorem callVa (vs : Array Value) (w : World) : (callFunc 19 vs).run Tryd.prog w = .ok (.enter 19 vs) w := run_callFunc Tryd.func19 (by kernel_rfl) (by kernel_rfl) vs w
/-- The places of a constructor's name and type among all. -/
theorem sig_at {ds : List Dt} {sl : List Sg} (h : sl.map (fun s => (s.name, s.ty)) = sigL (pairsOf ds)) (i j : Nat) (hi : i < ds.length) (hj : j < (ds.getD i default).cons.length) :
    (pairsOf (ds.take i)).length + j < sl.length ∧ (sl.getD ((pairsOf (ds.take i)).length + j) default).name = ((ds.getD i default).cons.getD j default).name ∧ (sl.getD ((pairsOf (ds.take i)).length + j) default).ty = arrN ((ds.getD i default).cons.getD j default).args (declN (ds.getD i default)) := by
  have e := congrArg (fun l => l[(pairsOf (ds.take i)).length + j]?) h
  simp only [sigL, List.getElem?_map, pairs_at ds i j hi hj, Option.map_some] at e
  cases hs : sl[(pairsOf (ds.take i)).length + j]? with
  | none => rw [hs] at e; simp at e
  | some s =>
    rw [hs] at e
    simp only [Option.map_some, Option.some.injEq, Prod.mk.injEq] at e
    refine ⟨(List.getElem?_eq_some_iff.1 hs).1, ?_, ?_⟩
    · rw [List.getD_eq_getElem?_getD, hs]; exact e.1
    · rw [List.getD_eq_getElem?_getD, hs]; exact e.2
theorem sig_len {ds : List Dt} {sl : List Sg} (h : sl.map (fun s => (s.name, s.ty)) = sigL (pairsOf ds)) : sl.length = (pairsOf ds).length := by
  have := congrArg List.length h
  simpa [sigL] using this
theorem check_nodup {ds : List Dt} (h : checkD ds = 0) : (namesD ds).Nodup := by
  rw [← rckD_eq] at h
  unfold rckD at h
  split at h
  · simp at h
  · split at h
    · simp at h
    · rename_i h2
      simp only [Bool.or_eq_true, not_or, decide_eq_true_eq, Classical.not_not] at h2
      exact h2.2
theorem pairs_max (ds : List Dt) (hf : FewDs ds) (i : Nat) : (pairsOf (ds.take i)).length ≤ 4900 := by
  have e : (pairsOf (ds.take i)).length = (namesD (ds.take i)).length := by unfold namesD; rw [List.length_map]
  rw [e]
  have h2 := namesD_len (ds.take i) 70 fun d hd => (hf.2 d (List.mem_of_mem_take hd)).2.1
  have h3 : (ds.take i).length ≤ 70 := by rw [List.length_take]; have := hf.1; omega
  have : (ds.take i).length * 70 ≤ 70 * 70 := Nat.mul_le_mul_right _ h3
  omega
theorem arr_small (Ls : List (List Nd)) (tl : List Nd) (h : ∀ t ∈ Ls, t.length ≤ 60 ∧ ∀ n ∈ t, n.text.size ≤ 60) (ht : SmallN tl) : SmallN (arrN Ls tl) := arrN_small Ls tl (fun L hL f hf => by have := (h L hL).2 f hf; omega) ht
theorem decl_small (d : Dt) (h : d.name.size ≤ 60) : SmallN (declN d) := by
  intro f hf
  unfold declN makeN at hf
  rcases List.mem_cons.1 hf with rfl | hf
  · show d.name.size ≤ 100000000; omega
  · obtain ⟨i, _, rfl⟩ := (prm_mem _ f).1 hf
    show (⟨#[]⟩ : ByteArray).size ≤ 100000000
    decide
set_option maxHeartbeats 16000000 in
theorem sigs_walk (lv : Value) (ds : List Dt) (w : World) (h : DtsAt w lv ds) (HT : TabW w) : Calls Tryd.prog 5 #[lv] w (RBt w) := by
  obtain ⟨i0, hi, hz0, hz1, hz2⟩ := infoD
  have HI := Lib.hid (And.intro hi (And.intro hz0 (And.intro hz1 hz2)))
  have AW := Lib.hid (fun w' (h : Below w.heap.size w w') => awake10_any w' (HT.after h))
  have E : Hid (∀ w', Below w.heap.size w w' → RBt w (.returned (.bool true)) w') := Lib.hid fun w' h => ⟨rfl, h⟩
  have H := Lib.hid h
  have FW := Lib.hid (fun W (hW : Below w.heap.size w W) => dfew_any lv ds W (h.below hW))
  obtain ⟨lq, lc, rfl⟩ := h.form
  obtain ⟨n, hnn⟩ : ∃ n, n = ds.length := ⟨_, rfl⟩
  have HN := Lib.hid hnn
  rw [← hnn] at FW ⊢
  generalize RBt w = Z at E ⊢
  clear h hnn HT hi hz0 hz1 hz2
  go_enter Tryd.func5, Tryd.ntmps5
  go_wp2_with fail
  refine (AW.out w (Below.refl _ _)).mono ?_
  rintro e w1 ⟨rfl, b1⟩
  have B1 := Lib.hid b1
  clear b1
  go_wp2_with fail
  refine (FW.out w1 B1.out).mono ?_
  rintro e w2 ⟨fb, rfl, hfb, b2⟩
  have B2 := Lib.hid (B1.out.trans (b2.mono B1.out.size))
  have FB := Lib.hid hfb
  clear b2 hfb FW
  cases fb with
  | false =>
    clear FB
    go_wp2_with fail
    refine (AW.out w2 B2.out).mono ?_
    rintro e w3 ⟨rfl, b3⟩
    have F := Lib.hid (E.out _ (B2.out.trans (b3.mono B2.out.size)))
    clear b3
    go_wp2
    first | go_ret | skip
    exact F.out
  | true =>
    have FD := Lib.hid (FB.out rfl)
    have n70 : n ≤ 70 := by rw [HN.out]; exact FD.out.1
    have TD : Hid (∀ d ∈ ds, TinyD d) := Lib.hid fun d hd => few_tiny (FD.out.2 d hd)
    have SG := Lib.hid (fun W v (hW : DtsAt W v ds) => dsigs_any v ds W hW (by rw [← HN.out]; omega) TD.out)
    unfold SiP at SG
    have RT := Lib.hid (fun (h0 : checkD ds = 0) => And.intro (checkD_right h0).2 (check_nodup h0))
    generalize checkD ds = k at *
    have FN := Lib.hid (fun W v con (hW : DtsAt W v ds) => find_any v ds con W hW (few_len FD.out).1 (few_len FD.out).2)
    unfold FdP at FN
    have VS0 := Lib.hid (dts_src (n := n) (by rw [HN.out]; exact H.out) HN.out)
    have ONE := Lib.hid (dts_one H.out)
    have LEN : Hid ((ds.flatMap Dt.cells).length = n * 3) := Lib.hid (by rw [HN.out]; exact cells3_len ds)
    have CPY : Hid (∀ w' B u, w'.ownsRow B 30 3 u n (ds.flatMap Dt.cells) → Below w.heap.size w w' → DtsAt w' u ds) := Lib.hid fun w' B u hr b => dts_copy H.out (by rw [← HN.out]; exact hr) b
    obtain ⟨VS, hVS⟩ : ∃ VS, VS = ds.flatMap Dt.cells := ⟨_, rfl⟩
    rw [← hVS] at VS0 ONE LEN CPY
    have HK : Hid (0 + n ≤ maxLen ∧ (0 + n) * 48 ≤ 140737488355328) := Lib.hid (by constructor; unfold maxLen; omega; omega)
    have BE2 : Hid (Below w.heap.size w (w2.alloc (.cells #[] 30))) := Lib.hid (B2.out.trans ((box_keep _).mono B2.out.size))
    clear hVS FB AW
    go_wp2_with ((at_builtin; refine wpList_append_any _ rfl _ _ 22 rfl w2.heap.size 30 i0 (.agg #[.string ⟨#[]⟩, .int .i64 0, .slice none 0 0]) 3 48 Tryd.underlying22 HI.out.1 HI.out.2.1 HI.out.2.2.1 HI.out.2.2.2 rfl (by decide) (.slice (some ⟨w2.heap.size, 0, none⟩) 0 0) 0 [] rfl (World.ownsRow_made w2 #[] 0 (Nat.le_refl _) (Nat.zero_le _) rfl) lq n lc VS rfl LEN.out (VS0.out _ BE2.out) ONE.out HK.out.1 HK.out.2 (by simp) ?_; intro p4 cap4 w4 hown hgrow hblk; rw [Nat.zero_add] at hown; simp only [Nat.zero_add]; have R4 := Lib.hid hown; have B4 := Lib.hid (BE2.out.grown hgrow BE2.out.size fun g e => (by (simp [Value.ownBlock] at e; have := B2.out.size; omega))); clear hown hgrow hblk))
    have D4 := CPY.out _ _ _ (show w4.ownsRow w2.heap.size 30 3 (.slice p4 n cap4) n VS from R4.out) B4.out
    have C5 := Lib.hid (SG.out w4 _ D4)
    clear D4 R4 SG
    go_wp2_with fail
    refine C5.out.mono ?_
    rintro e w5 ⟨v5, k5, rfl, rfl, b5, hc⟩
    have B5 := Lib.hid (B4.out.trans (b5.mono B4.out.size))
    have CASE := Lib.hid hc
    clear b5 hc C5
    rcases CASE.out with ⟨hk, rfl⟩ | ⟨rfl, sl, hs, hsl⟩
    · have t0 : (k5 != 0) = true := by simpa using hk
      have F := Lib.hid (E.out _ B5.out)
      clear CASE hk
      go_wp2
      first | go_ret | skip
      exact F.out
    · have t0 : ((0 : Int) != 0) = false := by simp
      have RD := Lib.hid (RT.out rfl)
      have S5 := Lib.hid hs
      have HSL := Lib.hid hsl
      obtain ⟨sp, sc, rfl⟩ := hs.form
      obtain ⟨z, hz⟩ : ∃ z, z = sl.length := ⟨_, rfl⟩
      have HZ := Lib.hid hz
      have PM := Lib.hid (pairs_max ds FD.out)
      have PT := Lib.hid (fun i (hi : i < n) => pairs_len_take ds i (by rw [← HN.out]; exact hi))
      have ENDL : Hid ((pairsOf (ds.take n)).length = z) := Lib.hid (by rw [HN.out, List.take_length, hz]; exact (sig_len hsl).symm)
      rw [← hz]
      clear CASE hs hsl hz RT
      go_wp2
      go_loopw [5, 6] (fun s5 s6 wr => ∃ (i ci : Nat), i ≤ n ∧ s6 = .int .i64 i ∧ s5 = .int .i64 ci ∧ Hid (ci = (pairsOf (ds.take i)).length) ∧ Hid (Below w5.heap.size w5 wr)) (fun _ s6 _ => n - (intOf s6).toNat)
      case atStart => exact ⟨0, 0, Nat.zero_le _, rfl, rfl, Lib.hid rfl, Lib.hid (Below.refl _ _)⟩
      case round =>
        obtain ⟨wo, hwo⟩ : ∃ wo : World, wo = wr := ⟨_, rfl⟩
        subst hwo
        obtain ⟨i, ci, hi, rfl, rfl, hC, hB⟩ := hrel
        by_cases hlt : i < n
        · have t1 : decide ((i : Int) < (n : Int)) = true := by simpa using hlt
          obtain ⟨b, o, c, e, hb, cw0, cw1, cw2⟩ := H.out.cell i (by rw [← HN.out]; exact hlt)
          simp only [Value.slice.injEq] at e
          obtain ⟨rfl, -, -⟩ := e
          have DM := getD_mem ds i (by rw [← HN.out]; exact hlt)
          have CF := Lib.hid (H.out.2 _ DM)
          have FCD := FD.out.2 _ DM
          have RDD := RD.out.1 _ DM
          have PTI := Lib.hid (PT.out i hlt)
          have SIG := Lib.hid (fun j hj => sig_at HSL.out i j (by rw [← HN.out]; exact hlt) hj)
          have FAT := Lib.hid (fun j hj => findC_at ds 0 i j RD.out.2 (by rw [← HN.out]; exact hlt) hj)
          rw [← hC.out] at PTI SIG
          obtain ⟨d, hd⟩ : ∃ d, d = ds.getD i default := ⟨_, rfl⟩
          rw [← hd] at cw0 cw1 cw2 CF FCD RDD PTI SIG FAT
          obtain ⟨lq2, lc2, ecv⟩ := CF.out.form
          obtain ⟨m, hm⟩ : ∃ m, m = d.cons.length := ⟨_, rfl⟩
          have m70 : m ≤ 70 := by rw [hm]; exact FCD.2.1
          rw [← hm] at ecv PTI
          rw [ecv] at cw2
          obtain ⟨p, hp⟩ : ∃ p : Nat, d.params = p := ⟨d.params.toNat, by have := (rightD_le RDD).1; omega⟩
          have p8 : p ≤ 8 := by have := (rightD_le RDD).2.1; omega
          rw [hp] at cw1
          obtain ⟨dn, hdn⟩ : ∃ dn, dn = d.name := ⟨_, rfl⟩
          rw [← hdn] at cw0
          have HM := Lib.hid hm
          have HP := Lib.hid hp
          have HDN := Lib.hid hdn
          have ECV := Lib.hid ecv
          have CW0 := Lib.hid cw0
          have CW1 := Lib.hid cw1
          have CW2 := Lib.hid cw2
          have HBO := Lib.hid hb
          have FC3 := Lib.hid FCD.2.2
          have FD1 := Lib.hid FCD.1
          have RDH := Lib.hid RDD
          have CI49 : ci ≤ 4900 := by rw [hC.out]; exact PM.out i
          clear DM hd ecv hm FCD hb cw0 cw1 cw2 RDD hp hdn hC
          go_wp2
          go_loopw [5, 7] (fun s5 s7 wr => ∃ j : Nat, j ≤ m ∧ s7 = .int .i64 j ∧ s5 = .int .i64 ((ci + j : Nat) : Int) ∧ Hid (Below w5.heap.size w5 wr)) (fun _ s7 _ => m - (intOf s7).toNat)
          case atStart => exact ⟨0, Nat.zero_le _, rfl, rfl, hB⟩
          case round =>
            clear hB
            obtain ⟨wo, hwo⟩ : ∃ wo : World, wo = wr := ⟨_, rfl⟩
            subst hwo
            obtain ⟨j, hj, rfl, rfl, hB⟩ := hrel
            have BW := Lib.hid (B5.out.trans (hB.out.mono B5.out.size))
            have c2 := (BW.out.cell (p := ⟨b, o + i * 3 + 2, none⟩) HBO.out).trans CW2.out
            by_cases hlt2 : j < m
            · have t2 : decide ((j : Int) < (m : Int)) = true := by simpa using hlt2
              obtain ⟨nx, hnx⟩ : ∃ nx, nx = ci + j := ⟨_, rfl⟩
              have HNX := Lib.hid hnx
              rw [← hnx]
              obtain ⟨sg1, sg2, sg3⟩ := SIG.out j (by rw [← HM.out]; exact hlt2)
              have FJ := Lib.hid (FAT.out j (by rw [← HM.out]; exact hlt2))
              rw [← hnx] at sg1 sg2 sg3
              obtain ⟨b3, o3, c3, e3, hb3, s0, s1, ns⟩ := sgs_cell S5.out nx sg1
              rw [← HZ.out] at e3 sg1
              simp only [Value.slice.injEq] at e3
              obtain ⟨rfl, -, -⟩ := e3
              rw [sg2] at s0
              rw [sg3] at ns
              have t3 : decide ((z : Int) ≤ (nx : Int)) = false := decide_eq_false (by omega)
              have t3' : decide (z ≤ nx) = false := decide_eq_false (by omega)
              obtain ⟨b2, o2, c2', e2, hb2, k0, k1⟩ := CF.out.cell j (by rw [← HM.out]; exact hlt2)
              rw [ECV.out] at e2
              simp only [Value.slice.injEq] at e2
              obtain ⟨rfl, -, -⟩ := e2
              have CM := getD_mem d.cons j (by rw [← HM.out]; exact hlt2)
              have LA := CF.out.2 _ CM
              have FCT := FC3.out _ CM
              have RCT := rightD_cons RDH.out _ CM
              obtain ⟨ct, hct⟩ : ∃ ct, ct = d.cons.getD j default := ⟨_, rfl⟩
              rw [← hct] at s0 ns k0 k1 LA FCT RCT FJ
              obtain ⟨aq, ac, eav⟩ := LA.form
              obtain ⟨za, hza⟩ : ∃ za, za = ct.args.length := ⟨_, rfl⟩
              have za10 : za ≤ 10 := by rw [hza]; exact FCT.2.1
              rw [← hza] at eav
              rw [eav] at k1 LA
              obtain ⟨cn, hcn⟩ : ∃ cn, cn = ct.name := ⟨_, rfl⟩
              rw [← hcn] at s0 k0 FJ
              obtain ⟨sv, hsv⟩ : ∃ sv, sv = (sl.getD nx default).v := ⟨_, rfl⟩
              rw [← hsv] at s1 ns
              obtain ⟨ty, hty⟩ : ∃ ty, ty = arrN ct.args (declN d) := ⟨_, rfl⟩
              rw [← hty] at ns
              have TL : ty.length ≤ 619 := by
                have h1 := arrN_len ct.args (declN d) fun t ht => (FCT.2.2 t ht).1
                have h2 := declN_len d
                have h3 := FCT.2.1
                have h4 := HP.out
                rw [hty]; omega
              have TDC := tyB_decl d (by have := RDH.out; unfold rightD at this; simp only [Bool.and_eq_true] at this; exact this.1.1.1.1.1) (by have := HP.out; omega) (by have := HP.out; omega)
              have TA : ∀ t ∈ ct.args, tyB t = true := fun t ht => by have := RCT; unfold rightC at this; simp only [Bool.and_eq_true] at this; exact List.all_eq_true.1 this.1.2 t ht
              have TT : tyB ty = true := by rw [hty]; exact tyB_arr TA TDC (by rw [← hty]; omega)
              have TS : SmallN ty := by rw [hty]; exact arr_small _ _ FCT.2.2 (decl_small d FD1.out)
              have VL := vars_arr d.params ct d rfl (by have := HP.out; omega) RCT
              have CKQ : Hid (∀ W, Below wo.heap.size wo W → Calls Tryd.prog 14 #[sv] W fun e w' => e = .returned (.int .i64 0) ∧ Below W.heap.size W w') := Lib.hid fun W hW => by
                have := check_any sv ty W ((ns.below hB.out).below hW) (by omega) TS
                unfold CkP at this
                rw [TT, if_pos rfl] at this
                exact this
              have PAQ : Hid (∀ W, Below w5.heap.size w5 W → Calls Tryd.prog 15 #[sv] W fun e w' => ∃ v1 v2, e = .returned (.tuple #[v1, v2]) ∧ Below W.heap.size W w' ∧ ListsAt w' v1 ct.args ∧ NodesAt w' v2 (declN d)) := Lib.hid fun W hW => (parts_any sv ty W (ns.below hW) (by omega) TS).mono fun e w' h => by
                obtain ⟨v1, v2, e1, b1, ⟨hno, _⟩ | ⟨t, L, r, hg, hf, hp, hl6, hr6⟩⟩ := h
                · rw [TT] at hno; simp at hno
                · have hne : ((declN d).getD 0 default).text ≠ sArrow := by
                    show d.name ≠ sArrow
                    refine (name_not ?_).1
                    have := RDH.out; unfold rightD at this; simp only [Bool.and_eq_true] at this; exact this.1.1.1.1.1
                  obtain ⟨eL, eR⟩ := pt_arr (declN d) hne ct.args t L r TA hg (by rw [hf, hty]) hp
                  rw [eL] at hl6
                  rw [eR] at hr6
                  exact ⟨v1, v2, e1, b1, hl6, hr6⟩
              have VAQ : Hid (∀ W, Below w5.heap.size w5 W → Calls Tryd.prog 19 #[sv] W fun e w' => ∃ q c, e = .returned (.slice q p c) ∧ Below W.heap.size W w') := Lib.hid fun W hW => (vars_any sv ty W (ns.below hW) (by omega) TS).mono fun e w' h => by
                obtain ⟨lv, e1, r1, b1⟩ := h
                rw [TT, if_pos rfl] at r1
                obtain ⟨_, q, c, e2, _⟩ := SliceAt.of_owns r1
                have : (varsN ty).length = p := by rw [hty]; have := HP.out; omega
                rw [this] at e2
                exact ⟨q, c, by rw [e1, e2], b1⟩
              have TYQ : Hid (∀ W v, Below w.heap.size w W → ListsAt W v ct.args → Calls Tryd.prog 12 #[v, .slice aq za ac] W fun e w' => e = .returned (.bool true) ∧ Below W.heap.size W w') := Lib.hid fun W v hW hv => by
                have := types_any v (.slice aq za ac) ct.args ct.args W hv (LA.below hW) (by omega) (fun t ht => by have := (FCT.2.2 t ht).1; omega)
                rw [decide_eq_true rfl] at this
                exact this
              have FIQ : Hid (∀ W v, DtsAt W v ds → Calls Tryd.prog 9 #[v, .string cn] W fun e w' => e = .returned (.tuple #[.int .i64 i, .int .i64 j, .bool true]) ∧ Below W.heap.size W w') := Lib.hid fun W v hW => by
                have := FN.out W v cn hW
                unfold findC at this
                rw [FJ.out, Nat.zero_add] at this
                exact this
              have DN0 : Hid (∀ W v, NodesAt W v (declN d) → ∃ b9 o9 c9, v = .slice (some ⟨b9, o9, none⟩) (p + 1) c9 ∧ b9 < W.heap.size ∧ W.cell? ⟨b9, o9 + 1, none⟩ = some (.string dn)) := Lib.hid fun W v hv => by
                obtain ⟨b9, o9, c9, e9, h9, _, h2, _, _⟩ := node_cell hv 0 (by rw [declN_len]; omega)
                rw [declN_len, HP.out, Int.toNat_natCast, Nat.add_comm] at e9
                rw [Nat.zero_mul, Nat.add_zero] at h2
                exact ⟨b9, o9, c9, e9, h9, by rw [HDN.out]; exact h2⟩
              obtain ⟨sq, scc, rfl⟩ := nodes_form2 ns
              obtain ⟨tyl, htyl⟩ : ∃ tyl, tyl = ty.length := ⟨_, rfl⟩
              rw [← htyl] at CKQ PAQ VAQ s1
              have WS : Hid (∀ X, Below w.heap.size w X → X.cell? ⟨b, o + i * 3, none⟩ = some (.string dn) ∧ X.cell? ⟨b, o + i * 3 + 1, none⟩ = some (.int .i64 p) ∧ X.cell? ⟨b, o + i * 3 + 2, none⟩ = some (.slice (some ⟨b2, o2, none⟩) m lc2) ∧ X.cell? ⟨b2, o2 + j * 2, none⟩ = some (.string cn) ∧ X.cell? ⟨b2, o2 + j * 2 + 1, none⟩ = some (.slice aq za ac)) := Lib.hid fun X hb =>
                ⟨(hb.cell (p := ⟨b, o + i * 3, none⟩) HBO.out).trans CW0.out, (hb.cell (p := ⟨b, o + i * 3 + 1, none⟩) HBO.out).trans CW1.out, (hb.cell (p := ⟨b, o + i * 3 + 2, none⟩) HBO.out).trans CW2.out, (hb.cell (p := ⟨b2, o2 + j * 2, none⟩) hb2).trans k0, (hb.cell (p := ⟨b2, o2 + j * 2 + 1, none⟩) hb2).trans k1⟩
              have W5S : Hid (∀ X, Below w5.heap.size w5 X → X.cell? ⟨b3, o3 + nx * 2, none⟩ = some (.string cn) ∧ X.cell? ⟨b3, o3 + nx * 2 + 1, none⟩ = some (.slice sq tyl scc)) := Lib.hid fun X hb => ⟨(hb.cell (p := ⟨b3, o3 + nx * 2, none⟩) hb3).trans s0, (hb.cell (p := ⟨b3, o3 + nx * 2 + 1, none⟩) hb3).trans s1⟩
              have WW5 : Hid (∀ X, Below w5.heap.size w5 X → Below w.heap.size w X) := Lib.hid fun X hX => B5.out.trans (hX.mono B5.out.size)
              obtain ⟨q0, q1, q2, q3, q4⟩ := WS.out wo BW.out
              obtain ⟨r0, r1⟩ := W5S.out wo hB.out
              have nx5k : nx ≤ 4970 := by omega
              have hnz : nx < z := sg1
              have HZA := Lib.hid hza
              clear sg1 sg2 sg3 s0 s1 ns k0 k1 hb2 hb3 CM LA FCT RCT hct eav hza hcn hsv hty TL TDC TA TT TS VL htyl FJ hnx c2
              have BO5 := Lib.hid hB.out
              clear hB
              go_wp2
              have e0 := cell_regrown q2
              have e1 := cell_regrown q3
              have e2 := cell_regrown r0
              have e3 := cell_regrown r1
              clear q0 q1 q2 q3 q4 r0 r1
              refine wp_region_quiet_below (by kernel_rfl) (by kernel_rfl) ?_
              repeat (go_big_quiet_step ((go_at_call 14; with_reducible exact Calls.regrown_of (CKQ.out _ (below_regrown wo _ _)))))
              refine wpQuiet_nil ?_
              intro w6 hw'
              obtain ⟨⟨dq, osq⟩, hw''⟩ := hw'
              have B6 : Hid (Below wo.heap.size wo w6) := Lib.hid (by rw [hw'']; exact below_regrown wo dq osq)
              have B56 := Lib.hid (BO5.out.trans (B6.out.mono BO5.out.size))
              clear hw'' e0 e1 e2 e3 CKQ
              obtain ⟨r0, r1⟩ := W5S.out w6 B56.out
              have CP := Lib.hid (PAQ.out w6 B56.out)
              clear PAQ B6
              go_wp2_with fail
              refine CP.out.mono ?_
              rintro e w7 ⟨v1, v2, rfl, b7, l7, n7⟩
              have B57 := Lib.hid (B56.out.trans (b7.mono B56.out.size))
              obtain ⟨b9, o9, c9, rfl, h9, x9⟩ := DN0.out w7 v2 n7
              obtain ⟨q1, c1, rfl⟩ := l7.form
              have L7 := Lib.hid l7
              have X9 := Lib.hid x9
              have H9 := Lib.hid h9
              rw [← HZA.out] at L7 ⊢
              obtain ⟨p1, hp1⟩ : ∃ p1, p1 = p + 1 := ⟨_, rfl⟩
              have ADD : IntKind.i64.wrap (1 + (p : Int)) = (p1 : Int) := by rw [IntKind.wrap_i64]; omega
              have p1pos : 0 < p1 := by omega
              rw [← hp1]
              clear b7 l7 n7 x9 h9 r0 r1 CP DN0 hp1
              obtain ⟨r0, r1⟩ := W5S.out w7 B57.out
              go_wp2
              refine wp_region_held_drew (S := fun X => X.cell? ⟨b3, o3 + nx * 2, none⟩ = some (.string cn)) (by kernel_rfl) (W5S.out _ (B57.out.trans ((Below.refl _ _).drew.mono B57.out.size))).1 ?_
              intro hHeld
              clear r0 r1
              refine wpAnyH_take (i := 1) (oi := { dst := some 90, op := Op.move (Operand.tmp 0), type := 22, pos := "law.go:130", after := #[], guard := none }) (v := ?_) rfl (by kernel_rfl) (by kernel_rfl) (by kernel_rfl) (fun _ _ _ h => h) (Or.inl ⟨by rfl, ?_⟩) hHeld ?_
              rotate_left
              · intro w hSw; (try dsimp only at hSw); go_simp; try with_reducible rfl
              try simp only [Act.put, List.setIfInBounds_toArray, List.set_cons_zero, List.set_cons_succ]
              refine wpAnyH_take (i := 3) (oi := { dst := some 92, op := Op.move (Operand.tmp 3), type := 48, pos := "law.go:130", after := #[], guard := none }) (v := ?_) rfl (by kernel_rfl) (by kernel_rfl) (by kernel_rfl) (fun _ _ _ h => h) (Or.inl ⟨by rfl, ?_⟩) hHeld ?_
              rotate_left
              · intro w hSw; (try dsimp only at hSw); go_simp; try with_reducible rfl
              try simp only [Act.put, List.setIfInBounds_toArray, List.set_cons_zero, List.set_cons_succ]
              refine wpAnyH_take (i := 4) (oi := { dst := some 93, op := Op.move (Operand.tmp 5), type := 3, pos := "law.go:130", after := #[], guard := none }) (v := ?_) rfl (by kernel_rfl) (by kernel_rfl) (by kernel_rfl) (fun _ _ _ h => h) (Or.inl ⟨by rfl, ?_⟩) hHeld ?_
              rotate_left
              · intro w hSw; (try dsimp only at hSw); go_simp; try with_reducible rfl
              try simp only [Act.put, List.setIfInBounds_toArray, List.set_cons_zero, List.set_cons_succ]
              refine wpAnyH_take (i := 5) (oi := { dst := some 94, op := Op.indexAddr 48 (Operand.tmp 92) (Operand.tmp 93), type := 0, pos := "law.go:130", after := #[{ on := 3, ground := Ground.data }, { on := 4, ground := Ground.data }], guard := none }) (v := ?_) rfl (by kernel_rfl) (by kernel_rfl) (by kernel_rfl) (fun _ _ _ h => h) (Or.inl ⟨by rfl, ?_⟩) hHeld ?_
              rotate_left
              · intro w hSw; (try dsimp only at hSw); go_simp; try with_reducible rfl
              try simp only [Act.put, List.setIfInBounds_toArray, List.set_cons_zero, List.set_cons_succ]
              refine wpAnyH_take (i := 6) (oi := { dst := some 95, op := Op.fieldAddr 52 (Operand.tmp 94) 0, type := 0, pos := "law.go:130", after := #[{ on := 5, ground := Ground.data }], guard := none }) (v := ?_) rfl (by kernel_rfl) (by kernel_rfl) (by kernel_rfl) (fun _ _ _ h => h) (Or.inl ⟨by rfl, ?_⟩) hHeld ?_
              rotate_left
              · intro w hSw; (try dsimp only at hSw); go_simp; try with_reducible rfl
              try simp only [Act.put, List.setIfInBounds_toArray, List.set_cons_zero, List.set_cons_succ]
              refine wpAnyH_take (i := 7) (oi := { dst := some 96, op := Op.load 9 (Operand.tmp 95), type := 9, pos := "law.go:130", after := #[{ on := 6, ground := Ground.data }], guard := none }) (v := ?_) rfl (by kernel_rfl) (by kernel_rfl) (by kernel_rfl) (fun _ _ _ h => h) (Or.inl ⟨by rfl, ?_⟩) hHeld ?_
              rotate_left
              · intro w hSw; (try dsimp only at hSw); go_simp; try with_reducible rfl
              try simp only [Act.put, List.setIfInBounds_toArray, List.set_cons_zero, List.set_cons_succ]
              have BD7 : Hid (Below w5.heap.size w5 w7.drew) := Lib.hid B57.out.drew
              have BE7 : Hid (Below w5.heap.size w5 (w7.drew.alloc (.cells #[] 30))) := Lib.hid (BD7.out.trans ((box_keep _).mono BD7.out.size))
              refine wpAnyH_ready (rs := [0]) (by kernel_rfl) (by simp) ?_
              refine AllReadyH.cons (o := { dst := some 89, op := Op.buildSlice 22 0 #[], type := 22, pos := "law.go:130", after := #[], guard := none }) rfl (fun K hK => ?_) AllReadyH.nil
              go_simp
              refine hK.out _ _ (W5S.out _ BE7.out).1 (fun hHeld => ?_)
              clear hK K
              try simp only [Act.put, List.setIfInBounds_toArray, List.set_cons_zero, List.set_cons_succ]
              refine wpAnyH_ready (rs := [2]) (by kernel_rfl) (by simp) ?_
              refine AllReadyH.cons (o := { dst := some 91, op := Op.call { callee := Callee.builtin Builtin.append, args := #[Operand.tmp 89, Operand.tmp 90], argTypes := #[22, 22] }, type := 22, pos := "law.go:130", after := #[{ on := 0, ground := Ground.data }, { on := 1, ground := Ground.data }], guard := none }) rfl (fun K hK => ?_) AllReadyH.nil
              refine step_append_any (by rfl) _ _ 22 (by rfl) w7.heap.size 30 i0 (.agg #[.string ⟨#[]⟩, .int .i64 0, .slice none 0 0]) 3 48 Tryd.underlying22 HI.out.1 HI.out.2.1 HI.out.2.2.1 HI.out.2.2.2 rfl (by decide) (.slice (some ⟨w7.heap.size, 0, none⟩) 0 0) 0 [] rfl (World.ownsRow_made w7.drew #[] 0 (Nat.le_refl _) (Nat.zero_le _) rfl) (some ⟨b, o, none⟩) n lc VS rfl LEN.out (VS0.out _ (WW5.out _ BE7.out)) ONE.out HK.out.1 HK.out.2 (by simp) ?_
              intro p8 cap8 w8 hown hgrow hblk
              rw [Nat.zero_add] at hown
              simp only [Nat.zero_add]
              have B87 : Hid (Below w7.heap.size w7 w8) := Lib.hid (((Below.refl w7.heap.size w7).drew.trans (box_keep (W := w7.drew) (.cells #[] 30))).grown hgrow (by simp) fun g e => by (simp [Value.ownBlock] at e; omega))
              have B58 := Lib.hid (B57.out.trans (B87.out.mono B57.out.size))
              have D8 := Lib.hid (CPY.out _ _ _ (show w8.ownsRow w7.heap.size 30 3 (.slice p8 n cap8) n VS from hown) (WW5.out _ B58.out))
              clear hown hgrow hblk
              refine hK.out _ _ (W5S.out _ B58.out).1 (fun hHeld => ?_)
              clear hK K
              try simp only [Act.put, List.setIfInBounds_toArray, List.set_cons_zero, List.set_cons_succ]
              refine wpAnyH_ready (rs := [8]) (by kernel_rfl) (by simp) ?_
              refine AllReadyH.cons (o := { dst := some 97, op := Op.call { callee := Callee.value (Operand.func 9), args := #[Operand.tmp 91, Operand.tmp 96], argTypes := #[22, 9] }, type := 25, pos := "law.go:130", after := #[{ on := 2, ground := Ground.data }, { on := 7, ground := Ground.data }, { on := 2, ground := Ground.chain }], guard := none }) rfl (fun K hK => ?_) AllReadyH.nil
              refine step_call_fn_if (by rfl) 9 #[.tmp 91, .tmp 96] #[22, 9] (by rfl) callFi #[.slice p8 n cap8, .string cn] (by simp [go_sem]) ?_
              refine Calls.mono (FIQ.out w8 _ D8.out) ?_
              rintro e w9 ⟨rfl, bb9⟩
              refine ⟨_, rfl, ?_⟩
              have B98 := Lib.hid (B87.out.trans (bb9.mono B87.out.size))
              have B59 := Lib.hid (B58.out.trans (bb9.mono B58.out.size))
              clear bb9
              refine hK.out _ _ (W5S.out _ B59.out).1 (fun hHeld => ?_)
              clear hK K
              simp only [Act.put, List.setIfInBounds_toArray, List.set_cons_zero, List.set_cons_succ]
              refine wpAnyH_take (i := 9) (oi := { dst := some 88, op := Op.move (Operand.tmp 97), type := 25, pos := "law.go:130", after := #[{ on := 8, ground := Ground.data }], guard := none }) (v := ?_) rfl (by kernel_rfl) (by kernel_rfl) (by kernel_rfl) (fun _ _ _ h => h) (Or.inl ⟨by rfl, ?_⟩) hHeld ?_
              rotate_left
              · intro w hSw; (try dsimp only at hSw); go_simp; try with_reducible rfl
              try simp only [Act.put, List.setIfInBounds_toArray, List.set_cons_zero, List.set_cons_succ]
              refine wpAnyH_take (i := 10) (oi := { dst := some 98, op := Op.extract (Operand.tmp 88) 0, type := 3, pos := "law.go:130", after := #[{ on := 9, ground := Ground.data }], guard := none }) (v := ?_) rfl (by kernel_rfl) (by kernel_rfl) (by kernel_rfl) (fun _ _ _ h => h) (Or.inl ⟨by rfl, ?_⟩) hHeld ?_
              rotate_left
              · intro w hSw; (try dsimp only at hSw); go_simp; try with_reducible rfl
              try simp only [Act.put, List.setIfInBounds_toArray, List.set_cons_zero, List.set_cons_succ]
              refine wpAnyH_take (i := 11) (oi := { dst := some 99, op := Op.extract (Operand.tmp 88) 1, type := 3, pos := "law.go:130", after := #[{ on := 9, ground := Ground.data }, { on := 13, ground := Ground.gcOnly Departure.lateStores }], guard := none }) (v := ?_) rfl (by kernel_rfl) (by kernel_rfl) (by kernel_rfl) (fun _ _ _ h => h) (Or.inl ⟨by rfl, ?_⟩) hHeld ?_
              rotate_left
              · intro w hSw; (try dsimp only at hSw); go_simp; try with_reducible rfl
              try simp only [Act.put, List.setIfInBounds_toArray, List.set_cons_zero, List.set_cons_succ]
              refine wpAnyH_take (i := 12) (oi := { dst := some 100, op := Op.extract (Operand.tmp 88) 2, type := 4, pos := "law.go:130", after := #[{ on := 9, ground := Ground.data }, { on := 14, ground := Ground.gcOnly Departure.lateStores }], guard := none }) (v := ?_) rfl (by kernel_rfl) (by kernel_rfl) (by kernel_rfl) (fun _ _ _ h => h) (Or.inl ⟨by rfl, ?_⟩) hHeld ?_
              rotate_left
              · intro w hSw; (try dsimp only at hSw); go_simp; try with_reducible rfl
              try simp only [Act.put, List.setIfInBounds_toArray, List.set_cons_zero, List.set_cons_succ]
              refine wpAnyH_take (i := 13) (oi := { dst := some 10, op := Op.assign (Operand.tmp 98), type := 3, pos := "law.go:130", after := #[{ on := 10, ground := Ground.data }, { on := 8, ground := Ground.chain }, { on := 0, ground := Ground.phase }, { on := 1, ground := Ground.phase }, { on := 2, ground := Ground.phase }, { on := 3, ground := Ground.phase }, { on := 4, ground := Ground.phase }, { on := 5, ground := Ground.phase }, { on := 6, ground := Ground.phase }, { on := 7, ground := Ground.phase }, { on := 8, ground := Ground.phase }, { on := 9, ground := Ground.phase }, { on := 10, ground := Ground.phase }, { on := 11, ground := Ground.textOnly Departure.lateStores }, { on := 12, ground := Ground.textOnly Departure.lateStores }], guard := none }) (v := ?_) rfl (by kernel_rfl) (by kernel_rfl) (by kernel_rfl) (fun _ _ _ h => h) (Or.inl ⟨by rfl, ?_⟩) hHeld ?_
              rotate_left
              · intro w hSw; (try dsimp only at hSw); go_simp; try with_reducible rfl
              try simp only [Act.put, List.setIfInBounds_toArray, List.set_cons_zero, List.set_cons_succ]
              refine wpAnyH_take (i := 14) (oi := { dst := some 11, op := Op.assign (Operand.tmp 99), type := 3, pos := "law.go:130", after := #[{ on := 11, ground := Ground.data }, { on := 13, ground := Ground.chain }, { on := 0, ground := Ground.phase }, { on := 1, ground := Ground.phase }, { on := 2, ground := Ground.phase }, { on := 3, ground := Ground.phase }, { on := 4, ground := Ground.phase }, { on := 5, ground := Ground.phase }, { on := 6, ground := Ground.phase }, { on := 7, ground := Ground.phase }, { on := 8, ground := Ground.phase }, { on := 9, ground := Ground.phase }, { on := 10, ground := Ground.phase }, { on := 11, ground := Ground.phase }, { on := 12, ground := Ground.textOnly Departure.lateStores }, { on := 13, ground := Ground.phase }], guard := none }) (v := ?_) rfl (by kernel_rfl) (by kernel_rfl) (by kernel_rfl) (fun _ _ _ h => h) (Or.inl ⟨by rfl, ?_⟩) hHeld ?_
              rotate_left
              · intro w hSw; (try dsimp only at hSw); go_simp; try with_reducible rfl
              try simp only [Act.put, List.setIfInBounds_toArray, List.set_cons_zero, List.set_cons_succ]
              refine wpAnyH_take (i := 15) (oi := { dst := some 12, op := Op.assign (Operand.tmp 100), type := 4, pos := "law.go:130", after := #[{ on := 12, ground := Ground.data }, { on := 14, ground := Ground.chain }, { on := 0, ground := Ground.phase }, { on := 1, ground := Ground.phase }, { on := 2, ground := Ground.phase }, { on := 3, ground := Ground.phase }, { on := 4, ground := Ground.phase }, { on := 5, ground := Ground.phase }, { on := 6, ground := Ground.phase }, { on := 7, ground := Ground.phase }, { on := 8, ground := Ground.phase }, { on := 9, ground := Ground.phase }, { on := 10, ground := Ground.phase }, { on := 11, ground := Ground.phase }, { on := 12, ground := Ground.phase }, { on := 13, ground := Ground.phase }, { on := 14, ground := Ground.phase }], guard := none }) (v := ?_) rfl (by kernel_rfl) (by kernel_rfl) (by kernel_rfl) (fun _ _ _ h => h) (Or.inl ⟨by rfl, ?_⟩) hHeld ?_
              rotate_left
              · intro w hSw; (try dsimp only at hSw); go_simp; try with_reducible rfl
              try simp only [Act.put, List.setIfInBounds_toArray, List.set_cons_zero, List.set_cons_succ]
              refine wpAnyH_done (by kernel_rfl) ?_ _
              clear hHeld
              have L9 := Lib.hid (L7.out.below B98.out)
              have X9' : Hid (∀ X, Below w9.heap.size w9 X → X.cell? ⟨b9, o9 + 1, none⟩ = some (.string dn)) := Lib.hid fun X hX => ((B98.out.trans (hX.mono B98.out.size)).cell (p := ⟨b9, o9 + 1, none⟩) H9.out).trans X9.out
              have W9 : Hid (∀ X, Below w9.heap.size w9 X → (X.cell? ⟨b, o + i * 3, none⟩ = some (.string dn) ∧ X.cell? ⟨b, o + i * 3 + 1, none⟩ = some (.int .i64 p) ∧ X.cell? ⟨b, o + i * 3 + 2, none⟩ = some (.slice (some ⟨b2, o2, none⟩) m lc2)) ∧ (X.cell? ⟨b2, o2 + j * 2 + 1, none⟩ = some (.slice aq za ac) ∧ X.cell? ⟨b3, o3 + nx * 2 + 1, none⟩ = some (.slice sq tyl scc) ∧ X.cell? ⟨b9, o9 + 1, none⟩ = some (.string dn))) := Lib.hid fun X hX => by
                have h5 := B59.out.trans (hX.mono B59.out.size)
                obtain ⟨a0, a1, a2, a3, a4⟩ := WS.out X (WW5.out X h5)
                exact ⟨⟨a0, a1, a2⟩, a4, (W5S.out X h5).2, X9'.out X hX⟩
              clear L7 X9 H9 X9' D8 B98 B87 B58 BD7 BE7 FIQ
              go_wp2
              refine wp_region_held_drew (S := fun X => (X.cell? ⟨b, o + i * 3, none⟩ = some (.string dn) ∧ X.cell? ⟨b, o + i * 3 + 1, none⟩ = some (.int .i64 p) ∧ X.cell? ⟨b, o + i * 3 + 2, none⟩ = some (.slice (some ⟨b2, o2, none⟩) m lc2)) ∧ (X.cell? ⟨b2, o2 + j * 2 + 1, none⟩ = some (.slice aq za ac) ∧ X.cell? ⟨b3, o3 + nx * 2 + 1, none⟩ = some (.slice sq tyl scc) ∧ X.cell? ⟨b9, o9 + 1, none⟩ = some (.string dn))) (by kernel_rfl) (W9.out _ ((Below.refl _ _).drew)) ?_
              intro hHeld
              refine wpAnyH_take (i := 0) (oi := { dst := some 101, op := Op.move (Operand.tmp 8), type := 31, pos := "law.go:131", after := #[], guard := none }) (v := ?_) rfl (by kernel_rfl) (by kernel_rfl) (by kernel_rfl) (fun _ _ _ h => h) (Or.inl ⟨by rfl, ?_⟩) hHeld ?_
              rotate_left
              · intro w hSw; (try dsimp only at hSw); go_simp; try with_reducible rfl
              try simp only [Act.put, List.setIfInBounds_toArray, List.set_cons_zero, List.set_cons_succ]
              refine wpAnyH_take (i := 1) (oi := { dst := some 102, op := Op.move (Operand.tmp 0), type := 22, pos := "law.go:131", after := #[], guard := none }) (v := ?_) rfl (by kernel_rfl) (by kernel_rfl) (by kernel_rfl) (fun _ _ _ h => h) (Or.inl ⟨by rfl, ?_⟩) hHeld ?_
              rotate_left
              · intro w hSw; (try dsimp only at hSw); go_simp; try with_reducible rfl
              try simp only [Act.put, List.setIfInBounds_toArray, List.set_cons_zero, List.set_cons_succ]
              refine wpAnyH_take (i := 2) (oi := { dst := some 103, op := Op.move (Operand.tmp 6), type := 3, pos := "law.go:131", after := #[], guard := none }) (v := ?_) rfl (by kernel_rfl) (by kernel_rfl) (by kernel_rfl) (fun _ _ _ h => h) (Or.inl ⟨by rfl, ?_⟩) hHeld ?_
              rotate_left
              · intro w hSw; (try dsimp only at hSw); go_simp; try with_reducible rfl
              try simp only [Act.put, List.setIfInBounds_toArray, List.set_cons_zero, List.set_cons_succ]
              refine wpAnyH_take (i := 3) (oi := { dst := some 104, op := Op.indexAddr 22 (Operand.tmp 102) (Operand.tmp 103), type := 0, pos := "law.go:131", after := #[{ on := 1, ground := Ground.data }, { on := 2, ground := Ground.data }], guard := none }) (v := ?_) rfl (by kernel_rfl) (by kernel_rfl) (by kernel_rfl) (fun _ _ _ h => h) (Or.inl ⟨by rfl, ?_⟩) hHeld ?_
              rotate_left
              · intro w hSw; (try dsimp only at hSw); go_simp; try with_reducible rfl
              try simp only [Act.put, List.setIfInBounds_toArray, List.set_cons_zero, List.set_cons_succ]
              refine wpAnyH_take (i := 4) (oi := { dst := some 105, op := Op.fieldAddr 30 (Operand.tmp 104) 2, type := 0, pos := "law.go:131", after := #[{ on := 3, ground := Ground.data }], guard := none }) (v := ?_) rfl (by kernel_rfl) (by kernel_rfl) (by kernel_rfl) (fun _ _ _ h => h) (Or.inl ⟨by rfl, ?_⟩) hHeld ?_
              rotate_left
              · intro w hSw; (try dsimp only at hSw); go_simp; try with_reducible rfl
              try simp only [Act.put, List.setIfInBounds_toArray, List.set_cons_zero, List.set_cons_succ]
              refine wpAnyH_take (i := 5) (oi := { dst := some 106, op := Op.load 27 (Operand.tmp 105), type := 27, pos := "law.go:131", after := #[{ on := 4, ground := Ground.data }], guard := none }) (v := ?_) rfl (by kernel_rfl) (by kernel_rfl) (by kernel_rfl) (fun _ _ _ h => h) (Or.inl ⟨by rfl, ?_⟩) hHeld ?_
              rotate_left
              · intro w hSw; (try dsimp only at hSw); go_simp; try with_reducible rfl
              try simp only [Act.put, List.setIfInBounds_toArray, List.set_cons_zero, List.set_cons_succ]
              refine wpAnyH_take (i := 6) (oi := { dst := some 107, op := Op.move (Operand.tmp 7), type := 3, pos := "law.go:131", after := #[], guard := none }) (v := ?_) rfl (by kernel_rfl) (by kernel_rfl) (by kernel_rfl) (fun _ _ _ h => h) (Or.inl ⟨by rfl, ?_⟩) hHeld ?_
              rotate_left
              · intro w hSw; (try dsimp only at hSw); go_simp; try with_reducible rfl
              try simp only [Act.put, List.setIfInBounds_toArray, List.set_cons_zero, List.set_cons_succ]
              refine wpAnyH_take (i := 7) (oi := { dst := some 108, op := Op.indexAddr 27 (Operand.tmp 106) (Operand.tmp 107), type := 0, pos := "law.go:131", after := #[{ on := 5, ground := Ground.data }, { on := 6, ground := Ground.data }], guard := none }) (v := ?_) rfl (by kernel_rfl) (by kernel_rfl) (by kernel_rfl) (fun _ _ _ h => h) (Or.inl ⟨by rfl, ?_⟩) hHeld ?_
              rotate_left
              · intro w hSw; (try dsimp only at hSw); go_simp; try with_reducible rfl
              try simp only [Act.put, List.setIfInBounds_toArray, List.set_cons_zero, List.set_cons_succ]
              refine wpAnyH_take (i := 8) (oi := { dst := some 109, op := Op.fieldAddr 33 (Operand.tmp 108) 1, type := 0, pos := "law.go:131", after := #[{ on := 7, ground := Ground.data }], guard := none }) (v := ?_) rfl (by kernel_rfl) (by kernel_rfl) (by kernel_rfl) (fun _ _ _ h => h) (Or.inl ⟨by rfl, ?_⟩) hHeld ?_
              rotate_left
              · intro w hSw; (try dsimp only at hSw); go_simp; try with_reducible rfl
              try simp only [Act.put, List.setIfInBounds_toArray, List.set_cons_zero, List.set_cons_succ]
              refine wpAnyH_take (i := 9) (oi := { dst := some 110, op := Op.load 31 (Operand.tmp 109), type := 31, pos := "law.go:131", after := #[{ on := 8, ground := Ground.data }], guard := none }) (v := ?_) rfl (by kernel_rfl) (by kernel_rfl) (by kernel_rfl) (fun _ _ _ h => h) (Or.inl ⟨by rfl, ?_⟩) hHeld ?_
              rotate_left
              · intro w hSw; (try dsimp only at hSw); go_simp; try with_reducible rfl
              try simp only [Act.put, List.setIfInBounds_toArray, List.set_cons_zero, List.set_cons_succ]
              refine wpAnyH_ready (rs := [10]) (by kernel_rfl) (by simp) ?_
              refine AllReadyH.cons (o := { dst := some 111, op := Op.call { callee := Callee.value (Operand.func 12), args := #[Operand.tmp 101, Operand.tmp 110], argTypes := #[31, 31] }, type := 4, pos := "law.go:131", after := #[{ on := 0, ground := Ground.data }, { on := 9, ground := Ground.data }], guard := none }) rfl (fun K hK => ?_) AllReadyH.nil
              refine step_call_fn_if (by rfl) 12 #[.tmp 101, .tmp 110] #[31, 31] (by rfl) callTy #[.slice q1 za c1, .slice aq za ac] (by simp [go_sem]) ?_
              refine Calls.mono (TYQ.out w9.drew _ (WW5.out _ B59.out.drew) (L9.out.below ((Below.refl _ _).drew))) ?_
              rintro e w10 ⟨rfl, bb10⟩
              refine ⟨_, rfl, ?_⟩
              have B10 : Hid (Below w9.heap.size w9 w10) := Lib.hid (((Below.refl w9.heap.size w9).drew).trans bb10)
              clear bb10
              refine hK.out _ _ (W9.out _ B10.out) (fun hHeld => ?_)
              clear hK K
              simp only [Act.put, List.setIfInBounds_toArray, List.set_cons_zero, List.set_cons_succ]
              refine wpAnyH_take (i := 11) (oi := { dst := some 112, op := Op.unOp UnOp.not 4 (Operand.tmp 111), type := 4, pos := "law.go:131", after := #[{ on := 10, ground := Ground.data }], guard := none }) (v := ?_) rfl (by kernel_rfl) (by kernel_rfl) (by kernel_rfl) (fun _ _ _ h => h) (Or.inl ⟨by rfl, ?_⟩) hHeld ?_
              rotate_left
              · intro w hSw; (try dsimp only at hSw); go_simp; try with_reducible rfl
              try simp only [Act.put, List.setIfInBounds_toArray, List.set_cons_zero, List.set_cons_succ]
              refine wpAnyH_take (i := 12) (oi := { dst := some 113, op := Op.move (Operand.tmp 112), type := 4, pos := "law.go:131", after := #[{ on := 11, ground := Ground.data }, { on := 10, ground := Ground.chain }], guard := none }) (v := ?_) rfl (by kernel_rfl) (by kernel_rfl) (by kernel_rfl) (fun _ _ _ h => h) (Or.inl ⟨by rfl, ?_⟩) hHeld ?_
              rotate_left
              · intro w hSw; (try dsimp only at hSw); go_simp; try with_reducible rfl
              try simp only [Act.put, List.setIfInBounds_toArray, List.set_cons_zero, List.set_cons_succ]
              refine wpAnyH_take (i := 13) (oi := { dst := some 114, op := Op.move (Operand.tmp 9), type := 36, pos := "law.go:131", after := #[{ on := 12, ground := Ground.guard }], guard := some (12, false) }) (v := ?_) rfl (by kernel_rfl) (by kernel_rfl) (by kernel_rfl) (fun _ _ _ h => h) (Or.inl ⟨by rfl, ?_⟩) hHeld ?_
              rotate_left
              · intro w hSw; (try dsimp only at hSw); go_simp; try with_reducible rfl
              try simp only [Act.put, List.setIfInBounds_toArray, List.set_cons_zero, List.set_cons_succ]
              refine wpAnyH_take (i := 14) (oi := { dst := some 115, op := Op.call { callee := Callee.builtin Builtin.len, args := #[Operand.tmp 114], argTypes := #[36] }, type := 3, pos := "law.go:131", after := #[{ on := 13, ground := Ground.data }, { on := 12, ground := Ground.guard }], guard := some (12, false) }) (v := ?_) rfl (by kernel_rfl) (by kernel_rfl) (by kernel_rfl) (fun _ _ _ h => h) (Or.inl ⟨by rfl, ?_⟩) hHeld ?_
              rotate_left
              · intro w hSw; (try dsimp only at hSw); go_simp; try with_reducible rfl
              try simp only [Act.put, List.setIfInBounds_toArray, List.set_cons_zero, List.set_cons_succ]
              refine wpAnyH_take (i := 15) (oi := { dst := some 116, op := Op.move (Operand.tmp 0), type := 22, pos := "law.go:131", after := #[{ on := 12, ground := Ground.guard }], guard := some (12, false) }) (v := ?_) rfl (by kernel_rfl) (by kernel_rfl) (by kernel_rfl) (fun _ _ _ h => h) (Or.inl ⟨by rfl, ?_⟩) hHeld ?_
              rotate_left
              · intro w hSw; (try dsimp only at hSw); go_simp; try with_reducible rfl
              try simp only [Act.put, List.setIfInBounds_toArray, List.set_cons_zero, List.set_cons_succ]
              refine wpAnyH_take (i := 16) (oi := { dst := some 117, op := Op.move (Operand.tmp 6), type := 3, pos := "law.go:131", after := #[{ on := 12, ground := Ground.guard }], guard := some (12, false) }) (v := ?_) rfl (by kernel_rfl) (by kernel_rfl) (by kernel_rfl) (fun _ _ _ h => h) (Or.inl ⟨by rfl, ?_⟩) hHeld ?_
              rotate_left
              · intro w hSw; (try dsimp only at hSw); go_simp; try with_reducible rfl
              try simp only [Act.put, List.setIfInBounds_toArray, List.set_cons_zero, List.set_cons_succ]
              refine wpAnyH_take (i := 17) (oi := { dst := some 118, op := Op.indexAddr 22 (Operand.tmp 116) (Operand.tmp 117), type := 0, pos := "law.go:131", after := #[{ on := 15, ground := Ground.data }, { on := 16, ground := Ground.data }, { on := 12, ground := Ground.guard }], guard := some (12, false) }) (v := ?_) rfl (by kernel_rfl) (by kernel_rfl) (by kernel_rfl) (fun _ _ _ h => h) (Or.inl ⟨by rfl, ?_⟩) hHeld ?_
              rotate_left
              · intro w hSw; (try dsimp only at hSw); go_simp; try with_reducible rfl
              try simp only [Act.put, List.setIfInBounds_toArray, List.set_cons_zero, List.set_cons_succ]
              refine wpAnyH_take (i := 18) (oi := { dst := some 119, op := Op.fieldAddr 30 (Operand.tmp 118) 1, type := 0, pos := "law.go:131", after := #[{ on := 17, ground := Ground.data }, { on := 12, ground := Ground.guard }], guard := some (12, false) }) (v := ?_) rfl (by kernel_rfl) (by kernel_rfl) (by kernel_rfl) (fun _ _ _ h => h) (Or.inl ⟨by rfl, ?_⟩) hHeld ?_
              rotate_left
              · intro w hSw; (try dsimp only at hSw); go_simp; try with_reducible rfl
              try simp only [Act.put, List.setIfInBounds_toArray, List.set_cons_zero, List.set_cons_succ]
              refine wpAnyH_take (i := 19) (oi := { dst := some 120, op := Op.load 3 (Operand.tmp 119), type := 3, pos := "law.go:131", after := #[{ on := 18, ground := Ground.data }, { on := 12, ground := Ground.guard }], guard := some (12, false) }) (v := ?_) rfl (by kernel_rfl) (by kernel_rfl) (by kernel_rfl) (fun _ _ _ h => h) (Or.inl ⟨by rfl, ?_⟩) hHeld ?_
              rotate_left
              · intro w hSw; (try dsimp only at hSw); go_simp; try with_reducible rfl
              try simp only [Act.put, List.setIfInBounds_toArray, List.set_cons_zero, List.set_cons_succ]
              refine wpAnyH_take (i := 20) (oi := { dst := some 121, op := Op.binOp BinOp.add 3 (Operand.const (Value.int IntKind.i64 1)) (Operand.tmp 120) 3, type := 3, pos := "law.go:131", after := #[{ on := 19, ground := Ground.data }, { on := 12, ground := Ground.guard }], guard := some (12, false) }) (v := ?_) rfl (by kernel_rfl) (by kernel_rfl) (by kernel_rfl) (fun _ _ _ h => h) (Or.inl ⟨by rfl, ?_⟩) hHeld ?_
              rotate_left
              · intro w hSw; (try dsimp only at hSw); go_simp; try with_reducible rfl
              try simp only [Act.put, List.setIfInBounds_toArray, List.set_cons_zero, List.set_cons_succ]
              refine wpAnyH_take (i := 21) (oi := { dst := some 122, op := Op.binOp BinOp.neq 3 (Operand.tmp 115) (Operand.tmp 121) 3, type := 4, pos := "law.go:131", after := #[{ on := 14, ground := Ground.data }, { on := 20, ground := Ground.data }, { on := 12, ground := Ground.guard }], guard := some (12, false) }) (v := ?_) rfl (by kernel_rfl) (by kernel_rfl) (by kernel_rfl) (fun _ _ _ h => h) (Or.inl ⟨by rfl, ?_⟩) hHeld ?_
              rotate_left
              · intro w hSw; (try dsimp only at hSw); go_simp; try with_reducible rfl
              try simp only [Act.put, List.setIfInBounds_toArray, List.set_cons_zero, List.set_cons_succ]
              refine wpAnyH_take (i := 22) (oi := { dst := some 123, op := Op.pick (Operand.tmp 113) (Operand.const (Value.bool true)) (Operand.tmp 122), type := 4, pos := "law.go:131", after := #[{ on := 12, ground := Ground.data }, { on := 21, ground := Ground.data }], guard := none }) (v := ?_) rfl (by kernel_rfl) (by kernel_rfl) (by kernel_rfl) (fun _ _ _ h => h) (Or.inl ⟨by rfl, ?_⟩) hHeld ?_
              rotate_left
              · intro w hSw; (try dsimp only at hSw); go_simp; try with_reducible rfl
              try simp only [Act.put, List.setIfInBounds_toArray, List.set_cons_zero, List.set_cons_succ]
              refine wpAnyH_take (i := 23) (oi := { dst := some 124, op := Op.move (Operand.tmp 123), type := 4, pos := "law.go:131", after := #[{ on := 22, ground := Ground.data }, { on := 12, ground := Ground.chain }], guard := none }) (v := ?_) rfl (by kernel_rfl) (by kernel_rfl) (by kernel_rfl) (fun _ _ _ h => h) (Or.inl ⟨by rfl, ?_⟩) hHeld ?_
              rotate_left
              · intro w hSw; (try dsimp only at hSw); go_simp; try with_reducible rfl
              try simp only [Act.put, List.setIfInBounds_toArray, List.set_cons_zero, List.set_cons_succ]
              refine wpAnyH_take (i := 24) (oi := { dst := some 125, op := Op.move (Operand.tmp 9), type := 36, pos := "law.go:131", after := #[{ on := 23, ground := Ground.guard }], guard := some (23, false) }) (v := ?_) rfl (by kernel_rfl) (by kernel_rfl) (by kernel_rfl) (fun _ _ _ h => h) (Or.inl ⟨by rfl, ?_⟩) hHeld ?_
              rotate_left
              · intro w hSw; (try dsimp only at hSw); go_simp; try with_reducible rfl
              try simp only [Act.put, List.setIfInBounds_toArray, List.set_cons_zero, List.set_cons_succ]
              refine wpAnyH_take (i := 25) (oi := { dst := some 126, op := Op.indexAddr 36 (Operand.tmp 125) (Operand.const (Value.int IntKind.i64 0)), type := 0, pos := "law.go:131", after := #[{ on := 24, ground := Ground.data }, { on := 23, ground := Ground.guard }], guard := some (23, false) }) (v := ?_) rfl (by kernel_rfl) (by kernel_rfl) (by kernel_rfl) (fun _ _ _ h => h) (Or.inl ⟨by rfl, ?_⟩) hHeld ?_
              rotate_left
              · intro w hSw; (try dsimp only at hSw); go_simp; try with_reducible rfl
              try simp only [Act.put, List.setIfInBounds_toArray, List.set_cons_zero, List.set_cons_succ]
              refine wpAnyH_take (i := 26) (oi := { dst := some 127, op := Op.fieldAddr 42 (Operand.tmp 126) 1, type := 0, pos := "law.go:131", after := #[{ on := 25, ground := Ground.data }, { on := 23, ground := Ground.guard }], guard := some (23, false) }) (v := ?_) rfl (by kernel_rfl) (by kernel_rfl) (by kernel_rfl) (fun _ _ _ h => h) (Or.inl ⟨by rfl, ?_⟩) hHeld ?_
              rotate_left
              · intro w hSw; (try dsimp only at hSw); go_simp; try with_reducible rfl
              try simp only [Act.put, List.setIfInBounds_toArray, List.set_cons_zero, List.set_cons_succ]
              refine wpAnyH_take (i := 27) (oi := { dst := some 128, op := Op.load 9 (Operand.tmp 127), type := 9, pos := "law.go:131", after := #[{ on := 26, ground := Ground.data }, { on := 23, ground := Ground.guard }], guard := some (23, false) }) (v := ?_) rfl (by kernel_rfl) (by kernel_rfl) (by kernel_rfl) (fun _ _ _ h => h) (Or.inl ⟨by rfl, ?_⟩) hHeld ?_
              rotate_left
              · intro w hSw; (try dsimp only at hSw); go_simp; try with_reducible rfl
              try simp only [Act.put, List.setIfInBounds_toArray, List.set_cons_zero, List.set_cons_succ]
              refine wpAnyH_take (i := 28) (oi := { dst := some 129, op := Op.move (Operand.tmp 0), type := 22, pos := "law.go:131", after := #[{ on := 23, ground := Ground.guard }], guard := some (23, false) }) (v := ?_) rfl (by kernel_rfl) (by kernel_rfl) (by kernel_rfl) (fun _ _ _ h => h) (Or.inl ⟨by rfl, ?_⟩) hHeld ?_
              rotate_left
              · intro w hSw; (try dsimp only at hSw); go_simp; try with_reducible rfl
              try simp only [Act.put, List.setIfInBounds_toArray, List.set_cons_zero, List.set_cons_succ]
              refine wpAnyH_take (i := 29) (oi := { dst := some 130, op := Op.move (Operand.tmp 6), type := 3, pos := "law.go:131", after := #[{ on := 23, ground := Ground.guard }], guard := some (23, false) }) (v := ?_) rfl (by kernel_rfl) (by kernel_rfl) (by kernel_rfl) (fun _ _ _ h => h) (Or.inl ⟨by rfl, ?_⟩) hHeld ?_
              rotate_left
              · intro w hSw; (try dsimp only at hSw); go_simp; try with_reducible rfl
              try simp only [Act.put, List.setIfInBounds_toArray, List.set_cons_zero, List.set_cons_succ]
              refine wpAnyH_take (i := 30) (oi := { dst := some 131, op := Op.indexAddr 22 (Operand.tmp 129) (Operand.tmp 130), type := 0, pos := "law.go:131", after := #[{ on := 28, ground := Ground.data }, { on := 29, ground := Ground.data }, { on := 23, ground := Ground.guard }], guard := some (23, false) }) (v := ?_) rfl (by kernel_rfl) (by kernel_rfl) (by kernel_rfl) (fun _ _ _ h => h) (Or.inl ⟨by rfl, ?_⟩) hHeld ?_
              rotate_left
              · intro w hSw; (try dsimp only at hSw); go_simp; try with_reducible rfl
              try simp only [Act.put, List.setIfInBounds_toArray, List.set_cons_zero, List.set_cons_succ]
              refine wpAnyH_take (i := 31) (oi := { dst := some 132, op := Op.fieldAddr 30 (Operand.tmp 131) 0, type := 0, pos := "law.go:131", after := #[{ on := 30, ground := Ground.data }, { on := 23, ground := Ground.guard }], guard := some (23, false) }) (v := ?_) rfl (by kernel_rfl) (by kernel_rfl) (by kernel_rfl) (fun _ _ _ h => h) (Or.inl ⟨by rfl, ?_⟩) hHeld ?_
              rotate_left
              · intro w hSw; (try dsimp only at hSw); go_simp; try with_reducible rfl
              try simp only [Act.put, List.setIfInBounds_toArray, List.set_cons_zero, List.set_cons_succ]
              refine wpAnyH_take (i := 32) (oi := { dst := some 133, op := Op.load 9 (Operand.tmp 132), type := 9, pos := "law.go:131", after := #[{ on := 31, ground := Ground.data }, { on := 23, ground := Ground.guard }], guard := some (23, false) }) (v := ?_) rfl (by kernel_rfl) (by kernel_rfl) (by kernel_rfl) (fun _ _ _ h => h) (Or.inl ⟨by rfl, ?_⟩) hHeld ?_
              rotate_left
              · intro w hSw; (try dsimp only at hSw); go_simp; try with_reducible rfl
              try simp only [Act.put, List.setIfInBounds_toArray, List.set_cons_zero, List.set_cons_succ]
              refine wpAnyH_take (i := 33) (oi := { dst := some 134, op := Op.binOp BinOp.neq 9 (Operand.tmp 128) (Operand.tmp 133) 9, type := 4, pos := "law.go:131", after := #[{ on := 27, ground := Ground.data }, { on := 32, ground := Ground.data }, { on := 23, ground := Ground.guard }], guard := some (23, false) }) (v := ?_) rfl (by kernel_rfl) (by kernel_rfl) (by kernel_rfl) (fun _ _ _ h => h) (Or.inl ⟨by rfl, ?_⟩) hHeld ?_
              rotate_left
              · intro w hSw; (try dsimp only at hSw); go_simp; try with_reducible rfl
              try simp only [Act.put, List.setIfInBounds_toArray, List.set_cons_zero, List.set_cons_succ]
              refine wpAnyH_take (i := 34) (oi := { dst := some 135, op := Op.pick (Operand.tmp 124) (Operand.const (Value.bool true)) (Operand.tmp 134), type := 4, pos := "law.go:131", after := #[{ on := 23, ground := Ground.data }, { on := 33, ground := Ground.data }], guard := none }) (v := ?_) rfl (by kernel_rfl) (by kernel_rfl) (by kernel_rfl) (fun _ _ _ h => h) (Or.inl ⟨by rfl, ?_⟩) hHeld ?_
              rotate_left
              · intro w hSw; (try dsimp only at hSw); go_simp; try with_reducible rfl
              try simp only [Act.put, List.setIfInBounds_toArray, List.set_cons_zero, List.set_cons_succ]
              refine wpAnyH_take (i := 35) (oi := { dst := some 136, op := Op.move (Operand.tmp 135), type := 4, pos := "law.go:131", after := #[{ on := 34, ground := Ground.data }, { on := 23, ground := Ground.chain }], guard := none }) (v := ?_) rfl (by kernel_rfl) (by kernel_rfl) (by kernel_rfl) (fun _ _ _ h => h) (Or.inl ⟨by rfl, ?_⟩) hHeld ?_
              rotate_left
              · intro w hSw; (try dsimp only at hSw); go_simp; try with_reducible rfl
              try simp only [Act.put, List.setIfInBounds_toArray, List.set_cons_zero, List.set_cons_succ]
              refine wpAnyH_take (i := 36) (oi := { dst := some 137, op := Op.move (Operand.tmp 12), type := 4, pos := "law.go:131", after := #[{ on := 35, ground := Ground.guard }], guard := some (35, false) }) (v := ?_) rfl (by kernel_rfl) (by kernel_rfl) (by kernel_rfl) (fun _ _ _ h => h) (Or.inl ⟨by rfl, ?_⟩) hHeld ?_
              rotate_left
              · intro w hSw; (try dsimp only at hSw); go_simp; try with_reducible rfl
              try simp only [Act.put, List.setIfInBounds_toArray, List.set_cons_zero, List.set_cons_succ]
              refine wpAnyH_take (i := 37) (oi := { dst := some 138, op := Op.unOp UnOp.not 4 (Operand.tmp 137), type := 4, pos := "law.go:131", after := #[{ on := 36, ground := Ground.data }, { on := 35, ground := Ground.guard }], guard := some (35, false) }) (v := ?_) rfl (by kernel_rfl) (by kernel_rfl) (by kernel_rfl) (fun _ _ _ h => h) (Or.inl ⟨by rfl, ?_⟩) hHeld ?_
              rotate_left
              · intro w hSw; (try dsimp only at hSw); go_simp; try with_reducible rfl
              try simp only [Act.put, List.setIfInBounds_toArray, List.set_cons_zero, List.set_cons_succ]
              refine wpAnyH_take (i := 38) (oi := { dst := some 139, op := Op.pick (Operand.tmp 136) (Operand.const (Value.bool true)) (Operand.tmp 138), type := 4, pos := "law.go:131", after := #[{ on := 35, ground := Ground.data }, { on := 37, ground := Ground.data }], guard := none }) (v := ?_) rfl (by kernel_rfl) (by kernel_rfl) (by kernel_rfl) (fun _ _ _ h => h) (Or.inl ⟨by rfl, ?_⟩) hHeld ?_
              rotate_left
              · intro w hSw; (try dsimp only at hSw); go_simp; try with_reducible rfl
              try simp only [Act.put, List.setIfInBounds_toArray, List.set_cons_zero, List.set_cons_succ]
              refine wpAnyH_take (i := 39) (oi := { dst := some 140, op := Op.move (Operand.tmp 139), type := 4, pos := "law.go:131", after := #[{ on := 38, ground := Ground.data }, { on := 35, ground := Ground.chain }], guard := none }) (v := ?_) rfl (by kernel_rfl) (by kernel_rfl) (by kernel_rfl) (fun _ _ _ h => h) (Or.inl ⟨by rfl, ?_⟩) hHeld ?_
              rotate_left
              · intro w hSw; (try dsimp only at hSw); go_simp; try with_reducible rfl
              try simp only [Act.put, List.setIfInBounds_toArray, List.set_cons_zero, List.set_cons_succ]
              refine wpAnyH_take (i := 40) (oi := { dst := some 141, op := Op.move (Operand.tmp 10), type := 3, pos := "law.go:131", after := #[{ on := 39, ground := Ground.guard }], guard := some (39, false) }) (v := ?_) rfl (by kernel_rfl) (by kernel_rfl) (by kernel_rfl) (fun _ _ _ h => h) (Or.inl ⟨by rfl, ?_⟩) hHeld ?_
              rotate_left
              · intro w hSw; (try dsimp only at hSw); go_simp; try with_reducible rfl
              try simp only [Act.put, List.setIfInBounds_toArray, List.set_cons_zero, List.set_cons_succ]
              refine wpAnyH_take (i := 41) (oi := { dst := some 142, op := Op.move (Operand.tmp 6), type := 3, pos := "law.go:131", after := #[{ on := 39, ground := Ground.guard }], guard := some (39, false) }) (v := ?_) rfl (by kernel_rfl) (by kernel_rfl) (by kernel_rfl) (fun _ _ _ h => h) (Or.inl ⟨by rfl, ?_⟩) hHeld ?_
              rotate_left
              · intro w hSw; (try dsimp only at hSw); go_simp; try with_reducible rfl
              try simp only [Act.put, List.setIfInBounds_toArray, List.set_cons_zero, List.set_cons_succ]
              refine wpAnyH_take (i := 42) (oi := { dst := some 143, op := Op.binOp BinOp.neq 3 (Operand.tmp 141) (Operand.tmp 142) 3, type := 4, pos := "law.go:131", after := #[{ on := 40, ground := Ground.data }, { on := 41, ground := Ground.data }, { on := 39, ground := Ground.guard }], guard := some (39, false) }) (v := ?_) rfl (by kernel_rfl) (by kernel_rfl) (by kernel_rfl) (fun _ _ _ h => h) (Or.inl ⟨by rfl, ?_⟩) hHeld ?_
              rotate_left
              · intro w hSw; (try dsimp only at hSw); go_simp; try with_reducible rfl
              try simp only [Act.put, List.setIfInBounds_toArray, List.set_cons_zero, List.set_cons_succ]
              refine wpAnyH_take (i := 43) (oi := { dst := some 144, op := Op.pick (Operand.tmp 140) (Operand.const (Value.bool true)) (Operand.tmp 143), type := 4, pos := "law.go:131", after := #[{ on := 39, ground := Ground.data }, { on := 42, ground := Ground.data }], guard := none }) (v := ?_) rfl (by kernel_rfl) (by kernel_rfl) (by kernel_rfl) (fun _ _ _ h => h) (Or.inl ⟨by rfl, ?_⟩) hHeld ?_
              rotate_left
              · intro w hSw; (try dsimp only at hSw); go_simp; try with_reducible rfl
              try simp only [Act.put, List.setIfInBounds_toArray, List.set_cons_zero, List.set_cons_succ]
              refine wpAnyH_take (i := 44) (oi := { dst := some 145, op := Op.move (Operand.tmp 144), type := 4, pos := "law.go:131", after := #[{ on := 43, ground := Ground.data }, { on := 39, ground := Ground.chain }], guard := none }) (v := ?_) rfl (by kernel_rfl) (by kernel_rfl) (by kernel_rfl) (fun _ _ _ h => h) (Or.inl ⟨by rfl, ?_⟩) hHeld ?_
              rotate_left
              · intro w hSw; (try dsimp only at hSw); go_simp; try with_reducible rfl
              try simp only [Act.put, List.setIfInBounds_toArray, List.set_cons_zero, List.set_cons_succ]
              refine wpAnyH_take (i := 45) (oi := { dst := some 146, op := Op.move (Operand.tmp 11), type := 3, pos := "law.go:131", after := #[{ on := 44, ground := Ground.guard }], guard := some (44, false) }) (v := ?_) rfl (by kernel_rfl) (by kernel_rfl) (by kernel_rfl) (fun _ _ _ h => h) (Or.inl ⟨by rfl, ?_⟩) hHeld ?_
              rotate_left
              · intro w hSw; (try dsimp only at hSw); go_simp; try with_reducible rfl
              try simp only [Act.put, List.setIfInBounds_toArray, List.set_cons_zero, List.set_cons_succ]
              refine wpAnyH_take (i := 46) (oi := { dst := some 147, op := Op.move (Operand.tmp 7), type := 3, pos := "law.go:131", after := #[{ on := 44, ground := Ground.guard }], guard := some (44, false) }) (v := ?_) rfl (by kernel_rfl) (by kernel_rfl) (by kernel_rfl) (fun _ _ _ h => h) (Or.inl ⟨by rfl, ?_⟩) hHeld ?_
              rotate_left
              · intro w hSw; (try dsimp only at hSw); go_simp; try with_reducible rfl
              try simp only [Act.put, List.setIfInBounds_toArray, List.set_cons_zero, List.set_cons_succ]
              refine wpAnyH_take (i := 47) (oi := { dst := some 148, op := Op.binOp BinOp.neq 3 (Operand.tmp 146) (Operand.tmp 147) 3, type := 4, pos := "law.go:131", after := #[{ on := 45, ground := Ground.data }, { on := 46, ground := Ground.data }, { on := 44, ground := Ground.guard }], guard := some (44, false) }) (v := ?_) rfl (by kernel_rfl) (by kernel_rfl) (by kernel_rfl) (fun _ _ _ h => h) (Or.inl ⟨by rfl, ?_⟩) hHeld ?_
              rotate_left
              · intro w hSw; (try dsimp only at hSw); go_simp; try with_reducible rfl
              try simp only [Act.put, List.setIfInBounds_toArray, List.set_cons_zero, List.set_cons_succ]
              refine wpAnyH_take (i := 48) (oi := { dst := some 149, op := Op.pick (Operand.tmp 145) (Operand.const (Value.bool true)) (Operand.tmp 148), type := 4, pos := "law.go:131", after := #[{ on := 44, ground := Ground.data }, { on := 47, ground := Ground.data }], guard := none }) (v := ?_) rfl (by kernel_rfl) (by kernel_rfl) (by kernel_rfl) (fun _ _ _ h => h) (Or.inl ⟨by rfl, ?_⟩) hHeld ?_
              rotate_left
              · intro w hSw; (try dsimp only at hSw); go_simp; try with_reducible rfl
              try simp only [Act.put, List.setIfInBounds_toArray, List.set_cons_zero, List.set_cons_succ]
              refine wpAnyH_take (i := 49) (oi := { dst := some 150, op := Op.move (Operand.tmp 149), type := 4, pos := "law.go:131", after := #[{ on := 48, ground := Ground.data }, { on := 44, ground := Ground.chain }], guard := none }) (v := ?_) rfl (by kernel_rfl) (by kernel_rfl) (by kernel_rfl) (fun _ _ _ h => h) (Or.inl ⟨by rfl, ?_⟩) hHeld ?_
              rotate_left
              · intro w hSw; (try dsimp only at hSw); go_simp; try with_reducible rfl
              try simp only [Act.put, List.setIfInBounds_toArray, List.set_cons_zero, List.set_cons_succ]
              refine wpAnyH_take (i := 50) (oi := { dst := some 151, op := Op.move (Operand.tmp 3), type := 48, pos := "law.go:131", after := #[{ on := 49, ground := Ground.guard }], guard := some (49, false) }) (v := ?_) rfl (by kernel_rfl) (by kernel_rfl) (by kernel_rfl) (fun _ _ _ h => h) (Or.inl ⟨by rfl, ?_⟩) hHeld ?_
              rotate_left
              · intro w hSw; (try dsimp only at hSw); go_simp; try with_reducible rfl
              try simp only [Act.put, List.setIfInBounds_toArray, List.set_cons_zero, List.set_cons_succ]
              refine wpAnyH_take (i := 51) (oi := { dst := some 152, op := Op.move (Operand.tmp 5), type := 3, pos := "law.go:131", after := #[{ on := 49, ground := Ground.guard }], guard := some (49, false) }) (v := ?_) rfl (by kernel_rfl) (by kernel_rfl) (by kernel_rfl) (fun _ _ _ h => h) (Or.inl ⟨by rfl, ?_⟩) hHeld ?_
              rotate_left
              · intro w hSw; (try dsimp only at hSw); go_simp; try with_reducible rfl
              try simp only [Act.put, List.setIfInBounds_toArray, List.set_cons_zero, List.set_cons_succ]
              refine wpAnyH_take (i := 52) (oi := { dst := some 153, op := Op.indexAddr 48 (Operand.tmp 151) (Operand.tmp 152), type := 0, pos := "law.go:131", after := #[{ on := 50, ground := Ground.data }, { on := 51, ground := Ground.data }, { on := 49, ground := Ground.guard }], guard := some (49, false) }) (v := ?_) rfl (by kernel_rfl) (by kernel_rfl) (by kernel_rfl) (fun _ _ _ h => h) (Or.inl ⟨by rfl, ?_⟩) hHeld ?_
              rotate_left
              · intro w hSw; (try dsimp only at hSw); go_simp; try with_reducible rfl
              try simp only [Act.put, List.setIfInBounds_toArray, List.set_cons_zero, List.set_cons_succ]
              refine wpAnyH_take (i := 53) (oi := { dst := some 154, op := Op.fieldAddr 52 (Operand.tmp 153) 1, type := 0, pos := "law.go:131", after := #[{ on := 52, ground := Ground.data }, { on := 49, ground := Ground.guard }], guard := some (49, false) }) (v := ?_) rfl (by kernel_rfl) (by kernel_rfl) (by kernel_rfl) (fun _ _ _ h => h) (Or.inl ⟨by rfl, ?_⟩) hHeld ?_
              rotate_left
              · intro w hSw; (try dsimp only at hSw); go_simp; try with_reducible rfl
              try simp only [Act.put, List.setIfInBounds_toArray, List.set_cons_zero, List.set_cons_succ]
              refine wpAnyH_take (i := 54) (oi := { dst := some 155, op := Op.load 36 (Operand.tmp 154), type := 36, pos := "law.go:131", after := #[{ on := 53, ground := Ground.data }, { on := 49, ground := Ground.guard }], guard := some (49, false) }) (v := ?_) rfl (by kernel_rfl) (by kernel_rfl) (by kernel_rfl) (fun _ _ _ h => h) (Or.inl ⟨by rfl, ?_⟩) hHeld ?_
              rotate_left
              · intro w hSw; (try dsimp only at hSw); go_simp; try with_reducible rfl
              try simp only [Act.put, List.setIfInBounds_toArray, List.set_cons_zero, List.set_cons_succ]
              refine wpAnyH_take (i := 57) (oi := { dst := some 158, op := Op.move (Operand.tmp 0), type := 22, pos := "law.go:131", after := #[{ on := 49, ground := Ground.guard }], guard := some (49, false) }) (v := ?_) rfl (by kernel_rfl) (by kernel_rfl) (by kernel_rfl) (fun _ _ _ h => h) (Or.inl ⟨by rfl, ?_⟩) hHeld ?_
              rotate_left
              · intro w hSw; (try dsimp only at hSw); go_simp; try with_reducible rfl
              try simp only [Act.put, List.setIfInBounds_toArray, List.set_cons_zero, List.set_cons_succ]
              refine wpAnyH_take (i := 58) (oi := { dst := some 159, op := Op.move (Operand.tmp 6), type := 3, pos := "law.go:131", after := #[{ on := 49, ground := Ground.guard }], guard := some (49, false) }) (v := ?_) rfl (by kernel_rfl) (by kernel_rfl) (by kernel_rfl) (fun _ _ _ h => h) (Or.inl ⟨by rfl, ?_⟩) hHeld ?_
              rotate_left
              · intro w hSw; (try dsimp only at hSw); go_simp; try with_reducible rfl
              try simp only [Act.put, List.setIfInBounds_toArray, List.set_cons_zero, List.set_cons_succ]
              refine wpAnyH_take (i := 59) (oi := { dst := some 160, op := Op.indexAddr 22 (Operand.tmp 158) (Operand.tmp 159), type := 0, pos := "law.go:131", after := #[{ on := 57, ground := Ground.data }, { on := 58, ground := Ground.data }, { on := 49, ground := Ground.guard }], guard := some (49, false) }) (v := ?_) rfl (by kernel_rfl) (by kernel_rfl) (by kernel_rfl) (fun _ _ _ h => h) (Or.inl ⟨by rfl, ?_⟩) hHeld ?_
              rotate_left
              · intro w hSw; (try dsimp only at hSw); go_simp; try with_reducible rfl
              try simp only [Act.put, List.setIfInBounds_toArray, List.set_cons_zero, List.set_cons_succ]
              refine wpAnyH_take (i := 60) (oi := { dst := some 161, op := Op.fieldAddr 30 (Operand.tmp 160) 1, type := 0, pos := "law.go:131", after := #[{ on := 59, ground := Ground.data }, { on := 49, ground := Ground.guard }], guard := some (49, false) }) (v := ?_) rfl (by kernel_rfl) (by kernel_rfl) (by kernel_rfl) (fun _ _ _ h => h) (Or.inl ⟨by rfl, ?_⟩) hHeld ?_
              rotate_left
              · intro w hSw; (try dsimp only at hSw); go_simp; try with_reducible rfl
              try simp only [Act.put, List.setIfInBounds_toArray, List.set_cons_zero, List.set_cons_succ]
              refine wpAnyH_take (i := 61) (oi := { dst := some 162, op := Op.load 3 (Operand.tmp 161), type := 3, pos := "law.go:131", after := #[{ on := 60, ground := Ground.data }, { on := 49, ground := Ground.guard }], guard := some (49, false) }) (v := ?_) rfl (by kernel_rfl) (by kernel_rfl) (by kernel_rfl) (fun _ _ _ h => h) (Or.inl ⟨by rfl, ?_⟩) hHeld ?_
              rotate_left
              · intro w hSw; (try dsimp only at hSw); go_simp; try with_reducible rfl
              try simp only [Act.put, List.setIfInBounds_toArray, List.set_cons_zero, List.set_cons_succ]
              refine wpAnyH_ready (rs := [55]) (by kernel_rfl) (by simp) ?_
              refine AllReadyH.cons (o := { dst := some 156, op := Op.call { callee := Callee.value (Operand.func 19), args := #[Operand.tmp 155], argTypes := #[36] }, type := 53, pos := "law.go:131", after := #[{ on := 54, ground := Ground.data }, { on := 49, ground := Ground.chain }, { on := 49, ground := Ground.guard }], guard := some (49, false) }) rfl (fun K hK => ?_) AllReadyH.nil
              refine step_call_fn_if (by rfl) 19 #[.tmp 155] #[36] (by rfl) callVa #[.slice sq tyl scc] (by simp [go_sem]) ?_
              refine Calls.mono (VAQ.out w10 (B59.out.trans (B10.out.mono B59.out.size))) ?_
              rintro e w11 ⟨vq, vc, rfl, bb11⟩
              refine ⟨_, rfl, ?_⟩
              have B11 := Lib.hid (B10.out.trans (bb11.mono B10.out.size))
              clear bb11
              refine hK.out _ _ (W9.out _ B11.out) (fun hHeld => ?_)
              clear hK K
              simp only [Act.put, List.setIfInBounds_toArray, List.set_cons_zero, List.set_cons_succ]
              refine wpAnyH_take (i := 56) (oi := { dst := some 157, op := Op.call { callee := Callee.builtin Builtin.len, args := #[Operand.tmp 156], argTypes := #[53] }, type := 3, pos := "law.go:131", after := #[{ on := 55, ground := Ground.data }, { on := 49, ground := Ground.guard }], guard := some (49, false) }) (v := ?_) rfl (by kernel_rfl) (by kernel_rfl) (by kernel_rfl) (fun _ _ _ h => h) (Or.inl ⟨by rfl, ?_⟩) hHeld ?_
              rotate_left
              · intro w hSw; (try dsimp only at hSw); go_simp; try with_reducible rfl
              try simp only [Act.put, List.setIfInBounds_toArray, List.set_cons_zero, List.set_cons_succ]
              refine wpAnyH_take (i := 62) (oi := { dst := some 163, op := Op.binOp BinOp.neq 3 (Operand.tmp 157) (Operand.tmp 162) 3, type := 4, pos := "law.go:131", after := #[{ on := 56, ground := Ground.data }, { on := 61, ground := Ground.data }, { on := 49, ground := Ground.guard }], guard := some (49, false) }) (v := ?_) rfl (by kernel_rfl) (by kernel_rfl) (by kernel_rfl) (fun _ _ _ h => h) (Or.inl ⟨by rfl, ?_⟩) hHeld ?_
              rotate_left
              · intro w hSw; (try dsimp only at hSw); go_simp; try with_reducible rfl
              try simp only [Act.put, List.setIfInBounds_toArray, List.set_cons_zero, List.set_cons_succ]
              refine wpAnyH_take (i := 63) (oi := { dst := some 164, op := Op.pick (Operand.tmp 150) (Operand.const (Value.bool true)) (Operand.tmp 163), type := 4, pos := "law.go:131", after := #[{ on := 49, ground := Ground.data }, { on := 62, ground := Ground.data }], guard := none }) (v := ?_) rfl (by kernel_rfl) (by kernel_rfl) (by kernel_rfl) (fun _ _ _ h => h) (Or.inl ⟨by rfl, ?_⟩) hHeld ?_
              rotate_left
              · intro w hSw; (try dsimp only at hSw); go_simp; try with_reducible rfl
              try simp only [Act.put, List.setIfInBounds_toArray, List.set_cons_zero, List.set_cons_succ]
              refine wpAnyH_done (by kernel_rfl) ?_ _
              clear hHeld W9
              have BF := Lib.hid (B59.out.trans (B11.out.mono B59.out.size))
              go_wp2
              go_roundw
              case rel => exact ⟨j + 1, hlt2, by go_num, by rw [show ci + (j + 1) = nx + 1 by have := HNX.out; omega]; go_num, BF⟩
              case measure => simp [intOf]; omega
            · obtain rfl : j = m := by omega
              have t2 : decide ((j : Int) < (j : Int)) = false := by simp
              have G := Lib.hid (show ci + j = (pairsOf (ds.take (i + 1))).length from PTI.out.symm)
              go_wp2
              go_roundw
              case rel => exact ⟨i + 1, ci + j, hlt, by go_num, rfl, G, hB⟩
              case measure => simp [intOf]; omega
        · obtain rfl : i = n := by omega
          have t1 : decide ((i : Int) < (i : Int)) = false := by simp
          have tz : (ci : Int) = (z : Int) := by rw [hC.out, ENDL.out]
          obtain rfl : ci = z := by omega
          have F := Lib.hid (E.out _ (B5.out.trans (hB.out.mono B5.out.size)))
          clear hB hC
          go_wp2
          first | go_ret | skip
          exact F.out
end Go.Proofs.YtncifeeinogcnaaDoor
