/- The walks of the law TreeParts. -/
import Derived.Test.YtdddfdblcfngbaaPartsMath
import Derived.Deep.RegionWith
namespace Go.Proofs.Ytdddfdblcfngbaa
open Go.RowKit Go.Proofs.TreeMath
theorem parts_long (p : Option Addr) (n c : Nat) (i : Int) (w : World) (hn : 40 < n) : Calls Try.prog 8 #[.slice p n c, .int .i64 i] w (BRet w true) := by
  go_enter Try.func8, Try.ntmps8
  go_wp2_with fail
  refine (awake_any _).mono ?_
  rintro e w1 ⟨y, rfl, rfl, b⟩
  go_wp2_with fail
  refine (awake_any _).mono ?_
  rintro e w2 ⟨y, rfl, rfl, b2⟩
  go_wp2_with fail
  go_ret
  exact ⟨_, rfl, rfl, b.trans (b2.mono b.size)⟩
set_option maxHeartbeats 4000000 in
theorem parts_no (p : Option Addr) (n c : Nat) (i E : Int) (ns : List Nd) (w : World) (hn : n ≤ 40) (h : NodesAt w (.slice p n c) ns) (hl : Hid (ns.length = n)) (HE : Hid (endI (kk ns) i = E)) (hE : decide (E < 0) = true) :
    Calls Try.prog 8 #[.slice p n c, .int .i64 i] w (BRet w true) := by
  go_enter Try.func8, Try.ntmps8
  go_wp2_with fail
  refine (awake_any _).mono ?_
  rintro e w1 ⟨y, rfl, rfl, b⟩
  go_wp2_with fail
  refine (own_any _ ns _ (h.below b) (by rw [hl.out]; omega)).mono ?_
  rintro e w2 ⟨v2, rfl, h2, b2⟩
  replace b2 := b.trans (b2.mono b.size)
  clear b
  go_wp2_with fail
  refine (end_any _ ns _ _ h2 (by rw [hl.out]; omega)).mono ?_
  rintro e w3 ⟨rfl, rfl⟩
  rw [HE.out]
  go_wp2_with fail
  refine (awake_any _).mono ?_
  rintro e w4 ⟨y, rfl, rfl, b4⟩
  go_wp2_with fail
  go_ret
  exact ⟨_, rfl, rfl, b2.trans (b4.mono b2.size)⟩
set_option maxHeartbeats 16000000 in
theorem parts_yes (b off n c i E : Nat) (ns : List Nd) (w : World) (hn : n ≤ 40) (h : NodesAt w (.slice (some ⟨b, off, none⟩) n c) ns) (hl : Hid (ns.length = n)) (hb : b < w.heap.size) (hcell : Hid (CellsIn w b off (nodeCells ns))) (HE : Hid (endI (kk ns) i = E)) (hi : i < n) (HF : Hid (0 ≤ fin (kk ns) i 1)) :
    Calls Try.prog 8 #[.slice (some ⟨b, off, none⟩) n c, .int .i64 i] w (BRet w true) := by
  have hE0 : decide ((E : Int) < 0) = false := decide_eq_false (by omega)
  obtain ⟨i0, hi0, hz0, hz1, hz2⟩ := infoSlice
  have HI := Lib.hid (And.intro hi0 (And.intro hz0 (And.intro hz1 hz2)))
  clear hi0 hz0 hz1 hz2
  obtain ⟨XS, hXS⟩ : ∃ XS, XS = kidsI (kk ns) i := ⟨_, rfl⟩
  obtain ⟨N, hN⟩ : ∃ N, N = XS.length := ⟨_, rfl⟩
  have hNn : N ≤ 40 := by
    rw [hN, hXS, ← (subK_parts (kk ns) i HF.out).2.1]
    have := kid_few (kk ns) i HF.out
    rw [length_kk, hl.out] at this
    omega
  have hall : ∀ s ∈ XS, s < n ∧ 0 ≤ fin (kk ns) s 1 := by
    intro s hs
    rw [hXS] at hs
    have h1 := (subK_parts (kk ns) i HF.out).2.2 s hs
    have h2 := (kid_nonneg (kk ns) s h1.2).1
    rw [length_kk, hl.out] at h2
    exact ⟨h2, h1.2⟩
  have hmx : ∀ j, mx 0 0 ((XS.take j).map (subK (kk ns))) ≤ 40 := fun j => mx_le _ 40 (fun t ht => by
    obtain ⟨s, _, rfl⟩ := List.mem_map.1 ht
    refine Nat.le_trans (deepI_le _) (Nat.le_trans (subK_len _ _) ?_)
    rw [length_kk, hl.out]
    exact hn) 0 (Nat.zero_le _)
  have HX := Lib.hid hXS
  have HN := Lib.hid hN
  have HA := Lib.hid hall
  have HM := Lib.hid hmx
  clear hXS hN hall hmx
  go_enter Try.func8, Try.ntmps8
  go_wp2_with fail
  refine (awake_any _).mono ?_
  rintro e w1 ⟨y, rfl, rfl, b1⟩
  go_wp2_with fail
  refine (own_any _ ns _ (h.below b1) (by rw [hl.out]; omega)).mono ?_
  rintro e w2 ⟨v2, rfl, h2, b2⟩
  replace b2 := b1.trans (b2.mono b1.size)
  clear b1
  go_wp2_with fail
  refine (end_any _ ns _ _ h2 (by rw [hl.out]; omega)).mono ?_
  rintro e w3 ⟨rfl, rfl⟩
  rw [HE.out]
  clear h2
  go_wp2_with fail
  refine (own_any _ ns _ (h.below b2) (by rw [hl.out]; omega)).mono ?_
  rintro e w4 ⟨v4, rfl, h4, b4⟩
  replace b4 := b2.trans (b4.mono b2.size)
  clear b2
  go_wp2_with fail
  refine (kids_any _ ns _ _ h4 (by rw [hl.out]; omega)).mono ?_
  rintro e w5 ⟨v5, rfl, h5, b5⟩
  replace b5 := b4.trans (b5.mono b4.size)
  clear b4 h4
  rw [← HX.out] at h5
  obtain ⟨q, cq, hvq, hcellq⟩ := ints_one h5
  have hNl : (ofNats XS).length = N := by simp [ofNats, HN.out]
  rw [hNl] at hvq hcellq
  subst hvq
  have HC := Lib.hid hcellq
  clear hcellq h5 hNl
  go_wp2_with fail
  go_loopw [6, 7, 8] (fun kv dp t wr => ∃ (j g cap D : Nat) (vs : List Value), j ≤ N ∧ t = .int .i64 j ∧ dp = .int .i64 D ∧ D ≤ 40 ∧ kv = .slice (some ⟨g, 0, none⟩) j cap ∧ D = mx 0 0 ((XS.take j).map (subK (kk ns))) ∧ RowOf wr w5.heap.size g j cap (kidL ns (XS.take j)) vs ∧ Below w.heap.size w wr ∧ Below w5.heap.size w5 wr) (fun _ _ t _ => N - (intOf t).toNat)
  case atStart =>
    exact ⟨0, w5.heap.size, 0, 0, [], Nat.zero_le _, rfl, rfl, by omega, rfl, rfl, ⟨World.ownsRow_made w5 #[] 0 (Nat.le_refl _) (Nat.zero_le _) rfl, rfl, fun t ht => by omega⟩, b5.trans (((Below.refl w5.heap.size w5).alloc (Nat.le_refl _) _).mono b5.size), (Below.refl _ _).alloc (Nat.le_refl _) _⟩
  case round =>
    obtain ⟨j, g, cap, D, vs, hj, rfl, rfl, hD40, rfl, hD, hrow, hbel, hb5⟩ := hrel
    have HD := Lib.hid hD
    have HR := Lib.hid hrow
    clear hD hrow
    by_cases hlt : j < N
    · obtain ⟨b2', off2, rfl, hb2, hc2⟩ := HC.out j hlt
      have hc3 := (hb5.cell (p := ⟨b2', off2 + j, none⟩) hb2).trans hc2
      have hjl : j < XS.length := by rw [← HN.out]; exact hlt
      obtain ⟨s, hs⟩ : ∃ s, s = XS[j] := ⟨_, rfl⟩
      have hsm := HA.out s (by rw [hs]; exact List.getElem_mem hjl)
      have he : (ofNats XS).getD j 0 = (s : Int) := by
        rw [hs]
        simp [ofNats, List.getD_eq_getElem?_getD, List.getElem?_eq_getElem hjl]
      rw [he] at hc3
      have hst : mx 0 0 ((XS.take (j + 1)).map (subK (kk ns))) = max D (deepI (subK (kk ns) s)) := by
        rw [List.take_succ_eq_append_getElem hjl, List.map_append, List.map_cons, List.map_nil, mx_snoc, ← HD.out, ← hs, Nat.zero_add]
      have hlk : kidL ns (XS.take (j + 1)) = kidL ns (XS.take j) ++ [subN ns (s : Int)] := by
        unfold kidL
        rw [List.take_succ_eq_append_getElem hjl, List.map_append, List.map_cons, List.map_nil, ← hs]
      have hbb := HM.out (j + 1)
      rw [hst] at hbb
      obtain ⟨S, hS⟩ : ∃ S, S = deepI (subK (kk ns) s) := ⟨_, rfl⟩
      rw [← hS] at hst hbb
      have hend : 0 ≤ endI (kk ns) (s : Int) := by rw [endI_nat]; exact hsm.2
      have hpos := subN_pos ns s hsm.2
      have hSl : (subN ns (s : Int)).length ≤ 40 := by
        rw [← length_kk, kk_subN]
        refine Nat.le_trans (subK_len _ _) ?_
        rw [length_kk, hl.out]
        exact hn
      obtain ⟨L, hL⟩ : ∃ L, L = subN ns (s : Int) := ⟨_, rfl⟩
      have hkL : kk L = subK (kk ns) s := by rw [hL]; exact kk_subN ns s
      rw [← hL] at hlk hpos hSl
      have HL := Lib.hid hL
      have HkL := Lib.hid hkL
      have HS := Lib.hid hS
      have HT := Lib.hid hst
      have HLk := Lib.hid hlk
      have hnode := h.below hbel
      have hblk : b2' < wr.heap.size := Nat.lt_of_lt_of_le hb2 hb5.size
      clear hc2 he hs hst hS hL hlk hkL
      go_wp2_with fail
      go_region_with (first
        | (go_at_call 12; refine (own_any _ ns _ ?_ (by rw [hl.out]; omega)).mono ?_; exact hnode.below (Below.refl _ _).drew; rintro e w10 ⟨v10, rfl, h10, b10⟩; have c10 : w10.cell? ⟨b2', off2 + j, none⟩ = some (.int .i64 s) := (b10.cell (p := ⟨b2', off2 + j, none⟩) hblk).trans hc3)
        | (go_at_call 11; refine (sub_fresh _ ns s _ h10 (by rw [hl.out]; omega) hend).mono ?_; rw [← HL.out]; rintro e w11 ⟨v11, rfl, h11, b11, hfr⟩; have HFr := Lib.hid hfr; clear hfr))
      all_goals
        have bs : Below wr.heap.size wr w11 := ((Below.refl _ wr).drew.trans b10).trans (b11.mono b10.size)
        have HFr2 : Hid (∀ k, v11.ownBlock = some k → wr.heap.size ≤ k) := Lib.hid (fun k hk => Nat.le_trans b10.size (HFr.out k hk))
        have hgl := HR.out.row.lt g rfl
        have hown11 := owns_below HR.out.row bs
        have HO := Lib.hid hown11
        obtain ⟨l11, hl11⟩ : ∃ l11, l11 = L.length := ⟨_, rfl⟩
        obtain ⟨p11, c11, rfl⟩ := nodes_form h11 hl11.symm
        clear hl11
        clear c10 h10 b10 b11 hown11 HFr
      all_goals
        have hv11 : (Value.slice p11 l11 c11).ownBlock ≠ some g := by
          intro h9
          have := HFr2.out g h9
          omega
        go_wp2_with ((at_builtin; refine wpList_append_where _ rfl _ _ 38 rfl w5.heap.size 22 i0 (.slice none 0 0) 1 24 Try.underlying38 HI.out.1 HI.out.2.1 HI.out.2.2.1 HI.out.2.2.2 rfl (by decide) g j cap vs rfl (HO.out.alloc _) ⟨w11.heap.size, 0, none⟩ 1 1 [.slice p11 l11 c11] rfl rfl (cell_one_new _ _ _) (fun x hx => by simp at hx; subst hx; rfl) (by unfold maxLen; omega) (by omega) (by have := bs.size; have := hb5.size; simp; omega) ?_; intro g' cap' w12 hown' hgrow hgg; have hrow2 := HR.out.push bs h11 hpos HFr2.out hown' hgrow hgg; have hn12 : NodesAt w12 (.slice p11 l11 c11) L := SliceAt.grown (h11.below ((Below.refl _ _).alloc (Nat.le_refl _) _)) hgrow (.inr hv11); have bb : Below w5.heap.size w5 w12 := ((hb5.trans (bs.mono hb5.size)).alloc (by have := bs.size; have := hb5.size; omega) _).grown hgrow (by have := bs.size; have := hb5.size; simp; omega) (fun k hk => by simp only [Option.some.injEq] at hk; omega); have HR2 := Lib.hid hrow2; clear hrow2 hown' hgrow hgg))
        refine (own_any _ L _ hn12 (by omega)).mono ?_
        rintro e w13 ⟨v13, rfl, h13, b13⟩
        go_wp2_with fail
        refine (deep_any _ L _ h13 (by omega)).mono ?_
        rw [HkL.out, ← HS.out]
        rintro e w14 ⟨y, rfl, rfl, b14⟩
        have b15 : Below w12.heap.size w12 w14 := b13.trans (b14.mono b13.size)
        clear b13 b14 h13 h11 hn12
        go_wp2_with fail
        all_goals
          go_roundw
          case rel => exact ⟨j + 1, g', cap', max D S, vs ++ [.slice p11 l11 c11], by omega, by go_num, by congr 1; omega, by omega, rfl, HT.out.symm, by rw [HLk.out]; exact HR2.out.below b15, b5.trans ((bb.trans (b15.mono bb.size)).mono b5.size), bb.trans (b15.mono bb.size)⟩
          case measure => simp [intOf]; omega
    · obtain rfl : j = N := by omega
      have hk1 : XS.take j = XS := by rw [HN.out, List.take_length]
      have hrow := HR.out
      rw [hk1, HX.out] at hrow
      have hpm := parts_math ns i HF.out
      obtain ⟨S, hS⟩ : ∃ S, S = subN ns (i : Int) := ⟨_, rfl⟩
      rw [← hS] at hpm
      have hkS : kk S = subK (kk ns) i := by rw [hS]; exact kk_subN ns i
      have hdS : deepI (kk S) = D + 1 := by
        rw [hkS, deep_subK (kk ns) i HF.out, ← HX.out]
        have := HD.out
        rw [hk1] at this
        rw [← this]
      have hSl : S.length ≤ 40 := by
        rw [← length_kk, hkS]
        refine Nat.le_trans (subK_len _ _) ?_
        rw [length_kk, hl.out]
        exact hn
      have hsum : sumLen (kidL ns (kidsI (kk ns) i)) := by
        refine ⟨by rw [hrow.len]; omega, ?_⟩
        have h9 := congrArg List.length hpm
        unfold makeN at h9
        rw [List.length_cons] at h9
        omega
      have hsubL : subL ns (i : Int) = S := by unfold subL; rw [HE.out, if_neg (by omega), hS]
      have hsubE : subE ns (i : Int) = 0 := by unfold subE; rw [HE.out, if_neg (by omega)]
      have HPM := Lib.hid hpm
      have HDS := Lib.hid hdS
      have HSL := Lib.hid hsubL
      have HSE := Lib.hid hsubE
      have HRw := Lib.hid hrow
      clear hk1 hrow hpm hS hkS hdS hsubL hsubE
      go_wp2_with fail
      refine (own_any _ ns _ (h.below hbel) (by rw [hl.out]; omega)).mono ?_
      rintro e w6 ⟨v6, rfl, h6, b6⟩
      go_wp2_with fail
      refine (sub_any _ ns i _ h6 (by rw [hl.out]; omega)).mono ?_
      rw [HSL.out, HSE.out]
      rintro e w7 ⟨v7, rfl, h7, b7⟩
      have b8 : Below wr.heap.size wr w7 := b6.trans (b7.mono b6.size)
      have b9 : Below w.heap.size w w7 := hbel.trans (b8.mono hbel.size)
      clear b6 b7 h6
      obtain ⟨x0, x1, x2, x3⟩ := (hcell.out.kept (b9.block b hb)).node i (by rw [hl.out]; exact hi)
      obtain ⟨x, hx⟩ : ∃ x, x = ns.getD i default := ⟨_, rfl⟩
      rw [← hx] at x0 x1 x2 x3
      have HXx := Lib.hid hx
      obtain ⟨xk, xt, xm, xs⟩ := x
      simp only at x0 x1 x2 x3
      have hlists := (HRw.out.below b8).lists
      clear hx
      go_wp2_with fail
      refine (make_any ⟨xk, xt, xm, xs⟩ _ _ _ hlists hsum).mono ?_
      rintro e w10 ⟨v10, rfl, h10, b10⟩
      rw [HXx.out, ← HPM.out] at h10
      replace h7 := h7.below b10
      replace b10 := b9.trans (b10.mono b9.size)
      clear b9 b8 x0 x1 x2 x3 hlists
      go_wp2_with fail
      refine (same_any _ _ S S _ h10 h7 (by omega)).mono ?_
      rintro e w11 ⟨y, hy, rfl, b11⟩
      obtain rfl : y = true := by simpa using hy
      replace h7 := h7.below b11
      replace b11 := b10.trans (b11.mono b10.size)
      clear b10 h10 hy
      go_wp2_with fail
      refine (own_any _ S _ h7 (by omega)).mono ?_
      rintro e w12 ⟨v12, rfl, h12, b12⟩
      replace b12 := b11.trans (b12.mono b11.size)
      clear b11
      go_wp2_with fail
      refine (deep_any _ S _ h12 (by omega)).mono ?_
      rw [HDS.out]
      rintro e w13 ⟨y, rfl, rfl, b13⟩
      go_wp2_with fail
      go_ret
      exact ⟨_, by simp, rfl, b12.trans (b13.mono b12.size)⟩
theorem parts_walk (v : Value) (i : Int) (ns : List Nd) (w : World) (h : NodesAt w v ns) : Calls Try.prog 8 #[v, .int .i64 i] w (BRet w true) := by
  obtain ⟨p, c, hv⟩ : ∃ p c, v = .slice p ns.length c := by obtain ⟨_, p, c, hv, _⟩ := h; exact ⟨p, c, hv⟩
  subst hv
  by_cases h40 : 40 < ns.length
  · exact parts_long p _ c i w h40
  · by_cases hE : endI (kk ns) i < 0
    · exact parts_no p _ c i _ ns w (by omega) h rfl rfl (decide_eq_true hE)
    · rcases endI_range (kk ns) i with h0 | ⟨h1, h2, h3⟩
      · omega
      · rw [length_kk] at h3
        obtain ⟨b, off, c', hv, _, _, h6, h7⟩ := nodes_slice h (by omega)
        simp only [Value.slice.injEq] at hv
        obtain ⟨rfl, _, rfl⟩ := hv
        obtain ⟨m, rfl⟩ : ∃ m : Nat, i = m := ⟨i.toNat, by omega⟩
        obtain ⟨E, hE'⟩ : ∃ E : Nat, endI (kk ns) m = E := ⟨(endI (kk ns) m).toNat, by omega⟩
        exact parts_yes b off _ c m E ns w (by omega) h rfl h6 h7 hE' (by omega) (Lib.hid (by rw [← endI_nat]; omega))
end Go.Proofs.Ytdddfdblcfngbaa
