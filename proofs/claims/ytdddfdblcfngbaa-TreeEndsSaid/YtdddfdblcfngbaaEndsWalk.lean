/- The walks of the law TreeEnds. -/
import Derived.Test.YtdddfdblcfngbaaAwake
namespace Go.Proofs.Ytdddfdblcfngbaa
open Go.RowKit Go.Proofs.TreeMath
theorem length_ofNats (xs : List Nat) : (ofNats xs).length = xs.length := by simp [ofNats]
theorem kids_few (ks : List Int) (i : Int) : (kidsI ks i).length ≤ ks.length := by
  unfold kidsI
  split
  · simp
  · rcases endI_range ks i with h0 | ⟨h1, h2, h3⟩
    · omega
    · obtain ⟨m, rfl⟩ : ∃ m : Nat, i = m := ⟨i.toNat, by omega⟩
      rw [starts_length, Int.toNat_natCast]
      rw [endI_nat] at h2
      have := kid_few ks m (by omega)
      omega
theorem ends_long (p : Option Addr) (n c : Nat) (i : Int) (w : World) (hn : 60 < n) : Calls Try.prog 3 #[.slice p n c, .int .i64 i] w (BRet w true) := by
  go_enter Try.func3, Try.ntmps3
  go_wp2_with fail
  refine (awake_any _).mono ?_
  rintro e w1 ⟨y, rfl, rfl, b⟩
  go_wp2_with fail
  refine (awake_any _).mono ?_
  rintro e w2 ⟨y, rfl, rfl, b2⟩
  go_wp2_with fail
  go_ret
  exact ⟨_, rfl, rfl, b.trans (b2.mono b.size)⟩
set_option maxHeartbeats 4000000 in
set_option maxRecDepth 100000 in
theorem ends_no (p : Option Addr) (n c : Nat) (i E : Int) (B : Bool) (ns : List Nd) (w : World) (hn : n ≤ 60) (h : NodesAt w (.slice p n c) ns) (hl : Hid (ns.length = n)) (HE : Hid (endI (kk ns) i = E)) (HS : Hid (subL ns i = [])) (HC : Hid (subE ns i = 20)) (HB : Hid (wholeB (kk ns) = B)) (hE : decide (E < 0) = true) :
    Calls Try.prog 3 #[.slice p n c, .int .i64 i] w (BRet w true) := by
  go_enter Try.func3, Try.ntmps3
  go_wp2_with fail
  refine (awake_any _).mono ?_
  rintro e w1 ⟨y, rfl, rfl, b⟩
  go_wp2_with fail
  refine (ref_end _ ns _ _ (h.below b) (by rw [hl.out]; omega)).mono ?_
  rintro e w2 ⟨rfl, rfl⟩
  rw [HE.out]
  go_wp2_with fail
  refine (own_any _ ns _ (h.below b) (by rw [hl.out]; omega)).mono ?_
  rintro e w2 ⟨v2, rfl, h2, b2⟩
  replace b2 := b.trans (b2.mono b.size)
  clear b
  go_wp2_with fail
  refine (sub_any _ ns _ _ h2 (by rw [hl.out]; omega)).mono ?_
  rintro e w3 ⟨v3, rfl, h3, b3⟩
  replace b3 := b2.trans (b3.mono b2.size)
  clear b2 h2
  rw [HC.out]
  rw [HS.out] at h3
  obtain ⟨p3, c3, rfl⟩ := nodes_form h3 rfl
  go_wp2_with fail
  refine (own_any _ ns _ (h.below b3) (by rw [hl.out]; omega)).mono ?_
  rintro e w4 ⟨v4, rfl, h4, b4⟩
  replace h3 := h3.below b4
  replace b4 := b3.trans (b4.mono b3.size)
  clear b3
  go_wp2_with fail
  refine (end_any _ ns _ _ h4 (by rw [hl.out]; omega)).mono ?_
  rintro e w5 ⟨rfl, rfl⟩
  rw [HE.out]
  clear h4
  go_wp2_with fail
  refine (own_any _ ns _ (h.below b4) (by rw [hl.out]; omega)).mono ?_
  rintro e w5 ⟨v5, rfl, h5, b5⟩
  replace h3 := h3.below b5
  replace b5 := b4.trans (b5.mono b4.size)
  clear b4
  go_wp2_with fail
  refine (whole_any _ ns _ h5 (by rw [hl.out]; omega)).mono ?_
  rintro e w6 ⟨rfl, rfl⟩
  rw [HB.out]
  clear h5
  go_wp2_with fail
  refine (ref_whole _ ns _ (h.below b5) (by rw [hl.out]; omega)).mono ?_
  rintro e w6 ⟨rfl, rfl⟩
  rw [HB.out]
  go_wp2_with fail
  refine (own_any _ ns _ (h.below b5) (by rw [hl.out]; omega)).mono ?_
  rintro e w6 ⟨v6, rfl, h6, b6⟩
  replace h3 := h3.below b6
  replace b6 := b5.trans (b6.mono b5.size)
  clear b5
  go_wp2_with fail
  refine (kids_any _ ns _ _ h6 (by rw [hl.out]; omega)).mono ?_
  rintro e w7 ⟨v7, rfl, h7, b7⟩
  replace h3 := h3.below b7
  replace b7 := b6.trans (b7.mono b6.size)
  clear b6 h6
  go_wp2_with fail
  refine (ref_kids _ ns _ _ (h.below b7) (by rw [hl.out]; omega)).mono ?_
  rintro e w8 ⟨v8, rfl, h8, b8⟩
  replace h3 := h3.below b8
  replace h7 := h7.below b8
  replace b8 := b7.trans (b8.mono b7.size)
  clear b7
  go_wp2_with fail
  refine (row_any _ _ _ _ _ h7 h8 (by rw [length_ofNats]; exact Nat.le_trans (kids_few _ _) (by rw [length_kk, hl.out]; omega))).mono ?_
  rintro e w9 ⟨y, hy, rfl, b9⟩
  obtain rfl : y = true := by simpa using hy
  replace h3 := h3.below b9
  replace b9 := b8.trans (b9.mono b8.size)
  clear b8 h7 h8 hy
  cases B <;>
  · go_wp2_with fail
    go_ret
    exact ⟨_, rfl, rfl, b9⟩
set_option maxHeartbeats 4000000 in
set_option maxRecDepth 100000 in
theorem ends_yes (bk off n c i E : Nat) (B : Bool) (ns X : List Nd) (w : World) (hn : n ≤ 60) (hnc : n ≤ c) (hcm : c ≤ 9223372036854775807) (hb : bk < w.heap.size) (hc : Hid (CellsIn w bk off (nodeCells ns))) (h : NodesAt w (.slice (some ⟨bk, off, none⟩) n c) ns) (hl : Hid (ns.length = n)) (HE : Hid (endI (kk ns) i = E)) (HS : Hid (subL ns i = X)) (HX : Hid (X = (ns.drop i).take (E - i))) (HC : Hid (subE ns i = 0)) (HB : Hid (wholeB (kk ns) = B)) (hiE : i < E) (hEn : E ≤ n) :
    Calls Try.prog 3 #[.slice (some ⟨bk, off, none⟩) n c, .int .i64 i] w (BRet w true) := by
  have hE : decide ((E : Int) < 0) = false := decide_eq_false (by omega)
  have hXl : X.length ≤ 1000000 := by rw [HX.out, List.length_take, List.length_drop, hl.out]; omega
  go_enter Try.func3, Try.ntmps3
  go_wp2_with fail
  refine (awake_any _).mono ?_
  rintro e w1 ⟨y, rfl, rfl, b⟩
  go_wp2_with fail
  refine (ref_end _ ns _ _ (h.below b) (by rw [hl.out]; omega)).mono ?_
  rintro e w2 ⟨rfl, rfl⟩
  rw [HE.out]
  go_wp2_with fail
  refine (own_any _ ns _ (h.below b) (by rw [hl.out]; omega)).mono ?_
  rintro e w2 ⟨v2, rfl, h2, b2⟩
  replace b2 := b.trans (b2.mono b.size)
  clear b
  go_wp2_with fail
  refine (sub_any _ ns _ _ h2 (by rw [hl.out]; omega)).mono ?_
  rintro e w3 ⟨v3, rfl, h3, b3⟩
  replace b3 := b2.trans (b3.mono b2.size)
  clear b2 h2
  rw [HC.out]
  rw [HS.out] at h3
  obtain ⟨p3, c3, rfl⟩ := nodes_form h3 rfl
  go_wp2_with fail
  refine (own_any _ ns _ (h.below b3) (by rw [hl.out]; omega)).mono ?_
  rintro e w4 ⟨v4, rfl, h4, b4⟩
  replace h3 := h3.below b4
  replace b4 := b3.trans (b4.mono b3.size)
  clear b3
  go_wp2_with fail
  refine (end_any _ ns _ _ h4 (by rw [hl.out]; omega)).mono ?_
  rintro e w5 ⟨rfl, rfl⟩
  rw [HE.out]
  clear h4
  go_wp2_with fail
  refine (own_any _ ns _ (h.below b4) (by rw [hl.out]; omega)).mono ?_
  rintro e w5 ⟨v5, rfl, h5, b5⟩
  replace h3 := h3.below b5
  replace b5 := b4.trans (b5.mono b4.size)
  clear b4
  go_wp2_with fail
  refine (whole_any _ ns _ h5 (by rw [hl.out]; omega)).mono ?_
  rintro e w6 ⟨rfl, rfl⟩
  rw [HB.out]
  clear h5
  go_wp2_with fail
  refine (ref_whole _ ns _ (h.below b5) (by rw [hl.out]; omega)).mono ?_
  rintro e w6 ⟨rfl, rfl⟩
  rw [HB.out]
  go_wp2_with fail
  refine (own_any _ ns _ (h.below b5) (by rw [hl.out]; omega)).mono ?_
  rintro e w6 ⟨v6, rfl, h6, b6⟩
  replace h3 := h3.below b6
  replace b6 := b5.trans (b6.mono b5.size)
  clear b5
  go_wp2_with fail
  refine (kids_any _ ns _ _ h6 (by rw [hl.out]; omega)).mono ?_
  rintro e w7 ⟨v7, rfl, h7, b7⟩
  replace h3 := h3.below b7
  replace b7 := b6.trans (b7.mono b6.size)
  clear b6 h6
  go_wp2_with fail
  refine (ref_kids _ ns _ _ (h.below b7) (by rw [hl.out]; omega)).mono ?_
  rintro e w8 ⟨v8, rfl, h8, b8⟩
  replace h3 := h3.below b8
  replace h7 := h7.below b8
  replace b8 := b7.trans (b8.mono b7.size)
  clear b7
  go_wp2_with fail
  refine (row_any _ _ _ _ _ h7 h8 (by rw [length_ofNats]; exact Nat.le_trans (kids_few _ _) (by rw [length_kk, hl.out]; omega))).mono ?_
  rintro e w9 ⟨y, hy, rfl, b9⟩
  obtain rfl : y = true := by simpa using hy
  replace h3 := h3.below b9
  replace b9 := b8.trans (b9.mono b8.size)
  clear b8 h7 h8 hy
  have hcut := cut_nodes hl.out hnc hcm (Nat.lt_of_lt_of_le hb b9.size) (hc.out.kept (b9.block bk hb)) i E (by omega) hEn
  rw [← HX.out] at hcut
  have HCut := Lib.hid hcut
  clear hcut hcm
  cases B <;>
  · go_wp2_with fail
    refine (same_any _ _ X X _ h3 HCut.out hXl).mono ?_
    rintro e w10 ⟨y, hy, rfl, b10⟩
    obtain rfl : y = true := by simpa using hy
    clear hy
    go_wp2_with fail
    go_ret
    exact ⟨_, rfl, rfl, b9.trans (b10.mono b9.size)⟩
theorem ends_walk (v : Value) (i : Int) (ns : List Nd) (w : World) (h : NodesAt w v ns) : Calls Try.prog 3 #[v, .int .i64 i] w (BRet w true) := by
  obtain ⟨p, c, hv⟩ : ∃ p c, v = .slice p ns.length c := by obtain ⟨_, p, c, hv, _⟩ := h; exact ⟨p, c, hv⟩
  subst hv
  by_cases h60 : 60 < ns.length
  · exact ends_long p _ c i w h60
  · by_cases hE : endI (kk ns) i < 0
    · exact ends_no p _ c i _ _ ns w (by omega) h rfl rfl (Lib.hid (by unfold subL; rw [if_pos hE])) (Lib.hid (by unfold subE; rw [if_pos hE])) rfl (decide_eq_true hE)
    · rcases endI_range (kk ns) i with h0 | ⟨h1, h2, h3⟩
      · omega
      · rw [length_kk] at h3
        obtain ⟨b, off, c', hv, h4, h5, h6, h7⟩ := nodes_slice h (by omega)
        simp only [Value.slice.injEq] at hv
        obtain ⟨rfl, _, rfl⟩ := hv
        obtain ⟨m, rfl⟩ : ∃ m : Nat, i = m := ⟨i.toNat, by omega⟩
        obtain ⟨E, hE'⟩ : ∃ E : Nat, endI (kk ns) m = E := ⟨(endI (kk ns) m).toNat, by omega⟩
        exact ends_yes b off _ c m E _ ns _ w (by omega) h4 h5 h6 h7 h rfl hE' rfl (Lib.hid (by unfold subL subN; rw [if_neg hE, hE', Int.toNat_natCast, Int.toNat_natCast])) (Lib.hid (by unfold subE; rw [if_neg hE])) rfl (by omega) (by omega)
end Go.Proofs.Ytdddfdblcfngbaa
