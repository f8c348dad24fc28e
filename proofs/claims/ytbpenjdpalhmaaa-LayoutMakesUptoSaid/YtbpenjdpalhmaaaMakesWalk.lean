/- The walk of LayoutMakes. -/
import Derived.Test.YtbpenjdpalhmaaaLayJ
namespace Go.Proofs.Ytbpenjdpalhmaaa
open Go.Shelf Go.RowKit Go.Lib Go.Sort Go.Proofs.TreeMath
theorem same_yes (v v2 : Value) (xs : List Nd) (w : World) (h : NodesAt w v xs) (h2 : NodesAt w v2 xs) (hn : xs.length ≤ 1000000) : Calls Try.prog 17 #[v, v2] w (RB true w) := by
  refine (same_any v v2 xs xs w h h2 hn).mono ?_
  rintro e w' ⟨b, hb, rfl, hw⟩
  subst hb
  exact ⟨by simp, hw⟩
theorem nodes_none (w : World) (p : Option Addr) (c : Nat) (hc : c ≤ maxLen) : NodesAt w (.slice p 0 c) [] := ⟨rfl, p, c, rfl, Nat.zero_le _, hc, fun h => absurd rfl h⟩
theorem one_lists (w : World) (v : Value) (ns : List Nd) (h : NodesAt w v ns) : ListsAt (w.alloc (.cells #[v] 22)) (.slice (some ⟨w.heap.size, 0, none⟩) 1 1) [ns] :=
  lists_lit w [v] 22 [ns] rfl (by simp) fun i hi => by
    obtain rfl : i = 0 := by simpa using hi
    exact h
set_option maxHeartbeats 4000000 in
theorem makes_none (s : ByteArray) (n : Int) (p : Option Addr) (c : Nat) (Ls : List (List Nd)) (w : World) (HL : Hid (ListsAt w (.slice p 0 c) Ls)) (HS : Hid (sumLen Ls)) (hs : s.size ≤ 100) : Calls Try.prog 4 #[.string s, .int .i64 n, .slice p 0 c] w (RB true w) := by
  have gs : decide ((100 : Int) < (s.size : Int)) = false := by simp; omega
  go_enter Try.func4, Try.ntmps4
  go_wp2_with fail
  refine (awake_any _).mono ?_
  rintro e w0 ⟨rfl, b0⟩
  have B0 := Lib.hid b0
  clear b0
  have C0 := Lib.hid (B0.out.alloc B0.out.size (.cells #[] 38))
  have HO : Hid (NodesAt w (.slice (some ⟨w0.heap.size, 0, none⟩) 0 0) []) := Lib.hid (nodes_none _ _ _ (Nat.zero_le _))
  have HOL : Hid (([] : List Nd).length ≤ 900000) := Lib.hid (by simp)
  go_wp2_with fail
  refine (text_any s _).mono ?_
  rintro e w1 ⟨v1, rfl, h1, b1⟩
  have H1 := Lib.hid h1
  clear h1
  have B1 := Lib.hid (C0.out.trans (b1.mono C0.out.size))
  clear b1
  have n1 := node_new w1 ⟨41, s, 0, 0⟩
  have S1 := Lib.hid (same_yes _ _ [⟨41, s, 0, 0⟩] _ (H1.out.below ((Below.refl _ _).alloc (Nat.le_refl _) _)) n1 (by simp))
  have A1 := Lib.hid (B1.out.alloc B1.out.size (.cells #[.int .i64 (⟨41, s, 0, 0⟩ : Nd).kind, .string (⟨41, s, 0, 0⟩ : Nd).text, .int .i64 (⟨41, s, 0, 0⟩ : Nd).num, .int .i64 (⟨41, s, 0, 0⟩ : Nd).kids] 38))
  clear n1
  go_wp2_with fail
  refine (S1.out).mono ?_
  rintro e w2 ⟨rfl, b2⟩
  have B2 := Lib.hid (A1.out.trans (b2.mono A1.out.size))
  clear b2
  go_wp2_with fail
  refine (line_any _).mono ?_
  rintro e w3 ⟨v3, rfl, h3, b3⟩
  have H3 := Lib.hid h3
  clear h3
  have B3 := Lib.hid (B2.out.trans (b3.mono B2.out.size))
  clear b3
  have n3 := node_new w3 ⟨42, ByteArray.empty, 0, 0⟩
  have S3 := Lib.hid (same_yes _ _ [⟨42, ByteArray.empty, 0, 0⟩] _ (H3.out.below ((Below.refl _ _).alloc (Nat.le_refl _) _)) n3 (by simp))
  have A3 := Lib.hid (B3.out.alloc B3.out.size (.cells #[.int .i64 (⟨42, ByteArray.empty, 0, 0⟩ : Nd).kind, .string (⟨42, ByteArray.empty, 0, 0⟩ : Nd).text, .int .i64 (⟨42, ByteArray.empty, 0, 0⟩ : Nd).num, .int .i64 (⟨42, ByteArray.empty, 0, 0⟩ : Nd).kids] 38))
  clear n3
  go_wp2_with fail
  refine (S3.out).mono ?_
  rintro e w4 ⟨rfl, b4⟩
  have B4 := Lib.hid (A3.out.trans (b4.mono A3.out.size))
  clear b4
  go_wp2_with fail
  refine (own_any _ [] _ (HO.out.below B4.out) (by have := HOL.out; omega)).mono ?_
  rintro e w5 ⟨v5, rfl, h5, b5⟩
  have H5 := Lib.hid h5
  clear h5
  have B5 := Lib.hid (B4.out.trans (b5.mono B4.out.size))
  clear b5
  go_wp2_with fail
  refine (nest_any n _ [] _ H5.out HOL.out).mono ?_
  rintro e w6 ⟨v6, rfl, h6, b6⟩
  have H6 := Lib.hid h6
  clear h6
  have B6 := Lib.hid (B5.out.trans (b6.mono B5.out.size))
  clear b6
  have L6 := one_lists w6 _ [] (HO.out.below B6.out)
  have R6 := Lib.hid (rmake_any ⟨43, ByteArray.empty, n, 0⟩ _ [[]] _ L6 ⟨by simp, by simp⟩)
  have A6 := Lib.hid (B6.out.alloc B6.out.size (.cells #[.slice (some ⟨w0.heap.size, 0, none⟩) 0 0] 22))
  have HA6 := Lib.hid (H6.out.below (((Below.refl _ _).alloc (Nat.le_refl _) (.cells #[.slice (some ⟨w0.heap.size, 0, none⟩) 0 0] 22))))
  clear L6
  go_wp2_with fail
  refine (R6.out).mono ?_
  rintro e w7 ⟨v7, rfl, h7, b7⟩
  have H7 := Lib.hid h7
  have HB7 := Lib.hid (HA6.out.below b7)
  clear h7
  have B7 := Lib.hid (A6.out.trans (b7.mono A6.out.size))
  clear b7
  go_wp2_with fail
  refine (same_yes _ _ (makeN ⟨43, ByteArray.empty, n, 0⟩ [[]]) _ HB7.out H7.out (by have := HOL.out; simp only [makeN, List.length_cons, List.flatten_cons, List.flatten_nil, List.append_nil]; omega)).mono ?_
  rintro e w8 ⟨rfl, b8⟩
  have B8 := Lib.hid (B7.out.trans (b8.mono B7.out.size))
  clear b8
  go_wp2_with fail
  refine (own_any _ [] _ (HO.out.below B8.out) (by have := HOL.out; omega)).mono ?_
  rintro e w9 ⟨v9, rfl, h9, b9⟩
  have H9 := Lib.hid h9
  clear h9
  have B9 := Lib.hid (B8.out.trans (b9.mono B8.out.size))
  clear b9
  go_wp2_with fail
  refine (group_any _ [] _ H9.out HOL.out).mono ?_
  rintro e w10 ⟨v10, rfl, h10, b10⟩
  have H10 := Lib.hid h10
  clear h10
  have B10 := Lib.hid (B9.out.trans (b10.mono B9.out.size))
  clear b10
  have L10 := one_lists w10 _ [] (HO.out.below B10.out)
  have R10 := Lib.hid (rmake_any ⟨44, ByteArray.empty, 0, 0⟩ _ [[]] _ L10 ⟨by simp, by simp⟩)
  have A10 := Lib.hid (B10.out.alloc B10.out.size (.cells #[.slice (some ⟨w0.heap.size, 0, none⟩) 0 0] 22))
  have HA10 := Lib.hid (H10.out.below (((Below.refl _ _).alloc (Nat.le_refl _) (.cells #[.slice (some ⟨w0.heap.size, 0, none⟩) 0 0] 22))))
  clear L10
  go_wp2_with fail
  refine (R10.out).mono ?_
  rintro e w11 ⟨v11, rfl, h11, b11⟩
  have H11 := Lib.hid h11
  have HB11 := Lib.hid (HA10.out.below b11)
  clear h11
  have B11 := Lib.hid (A10.out.trans (b11.mono A10.out.size))
  clear b11
  go_wp2_with fail
  refine (same_yes _ _ (makeN ⟨44, ByteArray.empty, 0, 0⟩ [[]]) _ HB11.out H11.out (by have := HOL.out; simp only [makeN, List.length_cons, List.flatten_cons, List.flatten_nil, List.append_nil]; omega)).mono ?_
  rintro e w12 ⟨rfl, b12⟩
  have B12 := Lib.hid (B11.out.trans (b12.mono B11.out.size))
  clear b12
  go_wp2_with fail
  refine (cat_any _ Ls _ (HL.out.below B12.out) HS.out).mono ?_
  rintro e w13 ⟨v13, rfl, h13, b13⟩
  have H13 := Lib.hid h13
  clear h13
  have B13 := Lib.hid (B12.out.trans (b13.mono B12.out.size))
  clear b13
  go_wp2_with fail
  refine (rmake_any ⟨45, ByteArray.empty, 0, 0⟩ _ Ls _ (HL.out.below B13.out) HS.out).mono ?_
  rintro e w14 ⟨v14, rfl, h14, b14⟩
  have H14 := Lib.hid h14
  have HB14 := Lib.hid (H13.out.below b14)
  clear h14
  have B14 := Lib.hid (B13.out.trans (b14.mono B13.out.size))
  clear b14
  go_wp2_with fail
  refine (same_yes _ _ (makeN ⟨45, ByteArray.empty, 0, 0⟩ Ls) _ HB14.out H14.out (by have := HS.out.2; simp only [makeN, List.length_cons]; omega)).mono ?_
  rintro e w15 ⟨rfl, b15⟩
  have B15 := Lib.hid (B14.out.trans (b15.mono B14.out.size))
  clear b15
  go_wp2_with fail
  go_ret
  exact ⟨rfl, B15.out⟩
set_option maxHeartbeats 4000000 in
theorem makes_some (s : ByteArray) (n : Int) (b off m c : Nat) (q : Option Addr) (k kc : Nat) (os : List Nd) (Ls : List (List Nd)) (w : World) (HL : Hid (ListsAt w (.slice (some ⟨b, off, none⟩) m c) Ls)) (HS : Hid (sumLen Ls)) (h8 : m ≤ 8) (h0 : 0 < m) (hb : b < w.heap.size) (hc : w.cell? ⟨b, off, none⟩ = some (.slice q k kc)) (HO : Hid (NodesAt w (.slice q k kc) os)) (HOL : Hid (os.length ≤ 900000)) (hs : s.size ≤ 100) : Calls Try.prog 4 #[.string s, .int .i64 n, .slice (some ⟨b, off, none⟩) m c] w (RB true w) := by
  have gs : decide ((100 : Int) < (s.size : Int)) = false := by simp; omega
  have g8 : decide ((8 : Int) < (m : Int)) = false := by simp; omega
  have g0 : decide ((0 : Int) < (m : Int)) = true := by simp; omega
  go_enter Try.func4, Try.ntmps4
  go_wp2_with fail
  refine (awake_any _).mono ?_
  rintro e w0 ⟨rfl, b0⟩
  have c0 := (b0.cell (p := ⟨b, off, none⟩) hb).trans hc
  have hb0 : b < w0.heap.size := Nat.lt_of_lt_of_le hb b0.size
  have B0 := Lib.hid b0
  clear b0 hc
  have C0 := Lib.hid (B0.out.alloc B0.out.size (.cells #[] 38))
  go_wp2_with fail
  refine (text_any s _).mono ?_
  rintro e w1 ⟨v1, rfl, h1, b1⟩
  have H1 := Lib.hid h1
  clear h1
  have B1 := Lib.hid (C0.out.trans (b1.mono C0.out.size))
  clear b1
  have n1 := node_new w1 ⟨41, s, 0, 0⟩
  have S1 := Lib.hid (same_yes _ _ [⟨41, s, 0, 0⟩] _ (H1.out.below ((Below.refl _ _).alloc (Nat.le_refl _) _)) n1 (by simp))
  have A1 := Lib.hid (B1.out.alloc B1.out.size (.cells #[.int .i64 (⟨41, s, 0, 0⟩ : Nd).kind, .string (⟨41, s, 0, 0⟩ : Nd).text, .int .i64 (⟨41, s, 0, 0⟩ : Nd).num, .int .i64 (⟨41, s, 0, 0⟩ : Nd).kids] 38))
  clear n1
  go_wp2_with fail
  refine (S1.out).mono ?_
  rintro e w2 ⟨rfl, b2⟩
  have B2 := Lib.hid (A1.out.trans (b2.mono A1.out.size))
  clear b2
  go_wp2_with fail
  refine (line_any _).mono ?_
  rintro e w3 ⟨v3, rfl, h3, b3⟩
  have H3 := Lib.hid h3
  clear h3
  have B3 := Lib.hid (B2.out.trans (b3.mono B2.out.size))
  clear b3
  have n3 := node_new w3 ⟨42, ByteArray.empty, 0, 0⟩
  have S3 := Lib.hid (same_yes _ _ [⟨42, ByteArray.empty, 0, 0⟩] _ (H3.out.below ((Below.refl _ _).alloc (Nat.le_refl _) _)) n3 (by simp))
  have A3 := Lib.hid (B3.out.alloc B3.out.size (.cells #[.int .i64 (⟨42, ByteArray.empty, 0, 0⟩ : Nd).kind, .string (⟨42, ByteArray.empty, 0, 0⟩ : Nd).text, .int .i64 (⟨42, ByteArray.empty, 0, 0⟩ : Nd).num, .int .i64 (⟨42, ByteArray.empty, 0, 0⟩ : Nd).kids] 38))
  clear n3
  go_wp2_with fail
  refine (S3.out).mono ?_
  rintro e w4 ⟨rfl, b4⟩
  have B4 := Lib.hid (A3.out.trans (b4.mono A3.out.size))
  clear b4
  go_wp2_with fail
  refine (own_any _ os _ (HO.out.below B4.out) (by have := HOL.out; omega)).mono ?_
  rintro e w5 ⟨v5, rfl, h5, b5⟩
  have H5 := Lib.hid h5
  clear h5
  have B5 := Lib.hid (B4.out.trans (b5.mono B4.out.size))
  clear b5
  go_wp2_with fail
  refine (nest_any n _ os _ H5.out HOL.out).mono ?_
  rintro e w6 ⟨v6, rfl, h6, b6⟩
  have H6 := Lib.hid h6
  clear h6
  have B6 := Lib.hid (B5.out.trans (b6.mono B5.out.size))
  clear b6
  have L6 := one_lists w6 _ os (HO.out.below B6.out)
  have R6 := Lib.hid (rmake_any ⟨43, ByteArray.empty, n, 0⟩ _ [os] _ L6 ⟨by simp, by simpa using HOL.out⟩)
  have A6 := Lib.hid (B6.out.alloc B6.out.size (.cells #[.slice q k kc] 22))
  have HA6 := Lib.hid (H6.out.below (((Below.refl _ _).alloc (Nat.le_refl _) (.cells #[.slice q k kc] 22))))
  clear L6
  go_wp2_with fail
  refine (R6.out).mono ?_
  rintro e w7 ⟨v7, rfl, h7, b7⟩
  have H7 := Lib.hid h7
  have HB7 := Lib.hid (HA6.out.below b7)
  clear h7
  have B7 := Lib.hid (A6.out.trans (b7.mono A6.out.size))
  clear b7
  go_wp2_with fail
  refine (same_yes _ _ (makeN ⟨43, ByteArray.empty, n, 0⟩ [os]) _ HB7.out H7.out (by have := HOL.out; simp only [makeN, List.length_cons, List.flatten_cons, List.flatten_nil, List.append_nil]; omega)).mono ?_
  rintro e w8 ⟨rfl, b8⟩
  have B8 := Lib.hid (B7.out.trans (b8.mono B7.out.size))
  clear b8
  go_wp2_with fail
  refine (own_any _ os _ (HO.out.below B8.out) (by have := HOL.out; omega)).mono ?_
  rintro e w9 ⟨v9, rfl, h9, b9⟩
  have H9 := Lib.hid h9
  clear h9
  have B9 := Lib.hid (B8.out.trans (b9.mono B8.out.size))
  clear b9
  go_wp2_with fail
  refine (group_any _ os _ H9.out HOL.out).mono ?_
  rintro e w10 ⟨v10, rfl, h10, b10⟩
  have H10 := Lib.hid h10
  clear h10
  have B10 := Lib.hid (B9.out.trans (b10.mono B9.out.size))
  clear b10
  have L10 := one_lists w10 _ os (HO.out.below B10.out)
  have R10 := Lib.hid (rmake_any ⟨44, ByteArray.empty, 0, 0⟩ _ [os] _ L10 ⟨by simp, by simpa using HOL.out⟩)
  have A10 := Lib.hid (B10.out.alloc B10.out.size (.cells #[.slice q k kc] 22))
  have HA10 := Lib.hid (H10.out.below (((Below.refl _ _).alloc (Nat.le_refl _) (.cells #[.slice q k kc] 22))))
  clear L10
  go_wp2_with fail
  refine (R10.out).mono ?_
  rintro e w11 ⟨v11, rfl, h11, b11⟩
  have H11 := Lib.hid h11
  have HB11 := Lib.hid (HA10.out.below b11)
  clear h11
  have B11 := Lib.hid (A10.out.trans (b11.mono A10.out.size))
  clear b11
  go_wp2_with fail
  refine (same_yes _ _ (makeN ⟨44, ByteArray.empty, 0, 0⟩ [os]) _ HB11.out H11.out (by have := HOL.out; simp only [makeN, List.length_cons, List.flatten_cons, List.flatten_nil, List.append_nil]; omega)).mono ?_
  rintro e w12 ⟨rfl, b12⟩
  have B12 := Lib.hid (B11.out.trans (b12.mono B11.out.size))
  clear b12
  go_wp2_with fail
  refine (cat_any _ Ls _ (HL.out.below B12.out) HS.out).mono ?_
  rintro e w13 ⟨v13, rfl, h13, b13⟩
  have H13 := Lib.hid h13
  clear h13
  have B13 := Lib.hid (B12.out.trans (b13.mono B12.out.size))
  clear b13
  go_wp2_with fail
  refine (rmake_any ⟨45, ByteArray.empty, 0, 0⟩ _ Ls _ (HL.out.below B13.out) HS.out).mono ?_
  rintro e w14 ⟨v14, rfl, h14, b14⟩
  have H14 := Lib.hid h14
  have HB14 := Lib.hid (H13.out.below b14)
  clear h14
  have B14 := Lib.hid (B13.out.trans (b14.mono B13.out.size))
  clear b14
  go_wp2_with fail
  refine (same_yes _ _ (makeN ⟨45, ByteArray.empty, 0, 0⟩ Ls) _ HB14.out H14.out (by have := HS.out.2; simp only [makeN, List.length_cons]; omega)).mono ?_
  rintro e w15 ⟨rfl, b15⟩
  have B15 := Lib.hid (B14.out.trans (b15.mono B14.out.size))
  clear b15
  go_wp2_with fail
  go_ret
  exact ⟨rfl, B15.out⟩
theorem makes_far (s : ByteArray) (n : Int) (p : Option Addr) (m c : Nat) (w : World) (h : 8 < m ∨ 100 < s.size) : Calls Try.prog 4 #[.string s, .int .i64 n, .slice p m c] w (RB true w) := by
  by_cases h8 : 8 < m
  · have g8 : decide ((8 : Int) < (m : Int)) = true := by simp; omega
    clear h
    go_enter Try.func4, Try.ntmps4
    go_wp2_with fail
    refine (awake_any _).mono ?_
    rintro e w1 ⟨rfl, b1⟩
    have B1 := Lib.hid b1
    clear b1
    go_wp2_with fail
    refine (awake_any _).mono ?_
    rintro e w2 ⟨rfl, b2⟩
    have B2 := Lib.hid (B1.out.trans (b2.mono B1.out.size))
    clear b2
    go_wp2_with fail
    go_ret
    exact ⟨rfl, B2.out⟩
  · have hs := h.resolve_left h8
    have g8 : decide ((8 : Int) < (m : Int)) = false := by simp; omega
    have gs : decide ((100 : Int) < (s.size : Int)) = true := by simp; omega
    clear h
    go_enter Try.func4, Try.ntmps4
    go_wp2_with fail
    refine (awake_any _).mono ?_
    rintro e w1 ⟨rfl, b1⟩
    have B1 := Lib.hid b1
    clear b1
    go_wp2_with fail
    refine (awake_any _).mono ?_
    rintro e w2 ⟨rfl, b2⟩
    have B2 := Lib.hid (B1.out.trans (b2.mono B1.out.size))
    clear b2
    go_wp2_with fail
    go_ret
    exact ⟨rfl, B2.out⟩
theorem makes_walk (s : ByteArray) (n : Int) (v : Value) (Ls : List (List Nd)) (w : World) (h : ListsAt w v Ls) (hf : Ls.flatten.length ≤ 900000) : Calls Try.prog 4 #[.string s, .int .i64 n, v] w (RB true w) := by
  have HL := Lib.hid h
  obtain ⟨vs, ⟨hl, p, c, rfl, _, _, hp⟩, hv⟩ := h
  by_cases hfar : 8 < Ls.length ∨ 100 < s.size
  · exact makes_far s n p _ c w hfar
  · rcases Ls with _ | ⟨l, Ls⟩
    · exact makes_none s n p c [] w HL (Lib.hid ⟨by simp, by simp⟩) (by omega)
    · obtain ⟨b, off, rfl, hb, hc⟩ := hp (by simp)
      have h0 := hv 0 (by simp)
      have hv0 : w.cell? ⟨b, off, none⟩ = some (vs.getD 0 default) := by
        have := hc 0 (vs.getD 0 default) (by rw [List.getD_eq_getElem?_getD, List.getElem?_eq_getElem (by rw [hl]; simp)]; rfl)
        simpa using this
      obtain ⟨q, kc, e⟩ := node_form h0
      rw [e] at hv0 h0
      exact makes_some s n b off _ c q _ kc l (l :: Ls) w HL (Lib.hid ⟨by omega, hf⟩) (by omega) (by simp) hb hv0 (Lib.hid h0) (Lib.hid (by rw [List.flatten_cons, List.length_append] at hf; omega)) (by omega)
end Go.Proofs.Ytbpenjdpalhmaaa
