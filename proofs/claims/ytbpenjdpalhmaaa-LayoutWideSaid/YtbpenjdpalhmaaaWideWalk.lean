/- The walk of LayoutWide. -/
import Derived.Test.YtbpenjdpalhmaaaLayJ
namespace Go.Proofs.Ytbpenjdpalhmaaa
open Go.Shelf Go.RowKit Go.Lib Go.Sort Go.Proofs.TreeMath
theorem zw_nil : (bs []).toList = [] := by rw [ByteArray.toList_eq]; rfl
theorem zw_emp : (bs []).toList.isEmpty = true := by rw [zw_nil]; rfl
set_option maxHeartbeats 4000000 in
theorem wide_no (p : Option Addr) (n c : Nat) (ns : List Nd) (wd : Nat) (w : World) (H : Hid (NodesAt w (.slice p n c) ns)) (HL : Hid (ns.length = n)) (h60 : n ≤ 60) (LG : Hid (longB ns = false)) (HD : Hid (docB ns = false)) (h1 : 1 ≤ wd) (h2 : wd ≤ 1000) :
    Calls Try.prog 6 #[.slice p n c, .int .i64 (wd : Int)] w (RB true w) := by
  have HN : Hid (ns.length ≤ 1000000) := Lib.hid (by rw [HL.out]; omega)
  have LO := Lib.hid (fun W (hW : Below w.heap.size w W) => long_any _ ns W (H.out.below hW) HN.out)
  rw [LG.out] at LO
  have g60 : decide ((60 : Int) < (n : Int)) = false := by simp; omega
  have z0 := zw_nil
  have z1 := zw_emp
  have g1 : decide ((wd : Int) < 1) = false := by simp; omega
  have g2 : decide ((1000 : Int) < (wd : Int)) = false := by simp; omega
  go_enter Try.func6, Try.ntmps6
  go_wp2_with fail
  refine (awake_any _).mono ?_
  rintro e w1 ⟨rfl, b1⟩
  have B1 := Lib.hid b1
  clear b1
  go_wp2_with fail
  refine (LO.out _ B1.out).mono ?_
  rintro e w2 ⟨rfl, rfl⟩
  go_wp2_with fail
  refine (own_bel _ ns w _ H.out HN.out B1.out).mono ?_
  rintro e w3 ⟨v3, rfl, h3, b3⟩
  have B3 := Lib.hid (B1.out.trans (b3.mono B1.out.size))
  clear b3
  have H3 := Lib.hid h3
  clear h3
  go_wp2_with fail
  refine (group_any _ ns _ H3.out (by have := HL.out; omega)).mono ?_
  rintro e w4 ⟨v4, rfl, h4, b4⟩
  have B4 := Lib.hid (B3.out.trans (b4.mono B3.out.size))
  clear b4
  rw [make_group] at h4
  have H4 := Lib.hid h4
  clear h4
  go_wp2_with fail
  refine (own_bel _ ns w _ H.out HN.out B4.out).mono ?_
  rintro e w5 ⟨v5, rfl, h5, b5⟩
  have H4_5 := Lib.hid (H4.out.below b5)
  have B5 := Lib.hid (B4.out.trans (b5.mono B4.out.size))
  clear b5
  have H5 := Lib.hid h5
  clear h5
  go_wp2_with fail
  refine (fno _ ns _ H5.out HN.out HD.out).mono ?_
  rintro e w6 ⟨rfl, b6⟩
  have H4_6 := Lib.hid (H4_5.out.below b6)
  have B6 := Lib.hid (B5.out.trans (b6.mono B5.out.size))
  clear b6
  go_wp2_with fail
  refine (lno _ (gN :: ns) (wd : Int) _ H4_6.out (by have := HL.out; simp; omega) (group_no ns (by rw [HL.out]; omega) HD.out)).mono ?_
  rintro e w7 ⟨rfl, b7⟩
  have B7 := Lib.hid (B6.out.trans (b7.mono B6.out.size))
  clear b7
  go_wp2_with fail
  go_ret
  exact ⟨rfl, B7.out⟩
set_option maxHeartbeats 4000000 in
theorem wide_fit (p : Option Addr) (n c : Nat) (ns : List Nd) (wd : Nat) (w : World) (H : Hid (NodesAt w (.slice p n c) ns)) (HL : Hid (ns.length = n)) (h60 : n ≤ 60) (LG : Hid (longB ns = false)) (f : F) (HF : Hid (IsDoc f ns)) (h1 : 1 ≤ wd) (h2 : wd ≤ 1000) (hfit : (flatT f).length ≤ wd) :
    Calls Try.prog 6 #[.slice p n c, .int .i64 (wd : Int)] w (RB true w) := by
  have HN : Hid (ns.length ≤ 1000000) := Lib.hid (by rw [HL.out]; omega)
  have LO := Lib.hid (fun W (hW : Below w.heap.size w W) => long_any _ ns W (H.out.below hW) HN.out)
  rw [LG.out] at LO
  have g60 : decide ((60 : Int) < (n : Int)) = false := by simp; omega
  have z0 := zw_nil
  have z1 := zw_emp
  have g1 : decide ((wd : Int) < 1) = false := by simp; omega
  have g2 : decide ((1000 : Int) < (wd : Int)) = false := by simp; omega
  have hg := group_lay wd f
  obtain ⟨X, hX⟩ : ∃ X, X = flatT f := ⟨_, rfl⟩
  obtain ⟨Y, hY⟩ : ∃ Y, Y = layT wd f 0 0 false := ⟨_, rfl⟩
  rw [← hX, ← hY] at hg
  rw [← hX] at hfit
  rw [if_pos hfit] at hg
  have HX := Lib.hid hX
  have HY := Lib.hid hY
  have GY := Lib.hid hg
  have t1 : decide (((bs X).size : Int) ≤ (wd : Int)) = true := by rw [bs_size]; simp; omega
  have t2 : decide ((bs X).size ≤ wd) = true := by rw [bs_size]; simp; omega
  clear hX hY hg hfit
  go_enter Try.func6, Try.ntmps6
  go_wp2_with fail
  refine (awake_any _).mono ?_
  rintro e w1 ⟨rfl, b1⟩
  have B1 := Lib.hid b1
  clear b1
  go_wp2_with fail
  refine (LO.out _ B1.out).mono ?_
  rintro e w2 ⟨rfl, rfl⟩
  go_wp2_with fail
  refine (own_bel _ ns w _ H.out HN.out B1.out).mono ?_
  rintro e w3 ⟨v3, rfl, h3, b3⟩
  have B3 := Lib.hid (B1.out.trans (b3.mono B1.out.size))
  clear b3
  have H3 := Lib.hid h3
  clear h3
  go_wp2_with fail
  refine (group_any _ ns _ H3.out (by have := HL.out; omega)).mono ?_
  rintro e w4 ⟨v4, rfl, h4, b4⟩
  have B4 := Lib.hid (B3.out.trans (b4.mono B3.out.size))
  clear b4
  rw [make_group] at h4
  have H4 := Lib.hid h4
  clear h4
  go_wp2_with fail
  refine (own_bel _ ns w _ H.out HN.out B4.out).mono ?_
  rintro e w5 ⟨v5, rfl, h5, b5⟩
  have H4_5 := Lib.hid (H4.out.below b5)
  have B5 := Lib.hid (B4.out.trans (b5.mono B4.out.size))
  clear b5
  have H5 := Lib.hid h5
  clear h5
  go_wp2_with fail
  refine (fyes _ ns f _ H5.out HF.out).mono ?_
  rintro e w6 ⟨rfl, b6⟩
  have H4_6 := Lib.hid (H4_5.out.below b6)
  have B6 := Lib.hid (B5.out.trans (b6.mono B5.out.size))
  clear b6
  rw [← HX.out]
  go_wp2_with fail
  refine (lyes _ (gN :: ns) (.cons gN f .nil) wd _ H4_6.out (group_doc ns f HF.out (by rw [HL.out]; omega)) h1 h2).mono ?_
  rintro e w7 ⟨rfl, b7⟩
  have B7 := Lib.hid (B6.out.trans (b7.mono B6.out.size))
  clear b7
  rw [GY.out]
  go_wp2_with fail
  go_ret
  exact ⟨rfl, B7.out⟩
set_option maxHeartbeats 4000000 in
theorem wide_not (p : Option Addr) (n c : Nat) (ns : List Nd) (wd : Nat) (w : World) (H : Hid (NodesAt w (.slice p n c) ns)) (HL : Hid (ns.length = n)) (h60 : n ≤ 60) (LG : Hid (longB ns = false)) (f : F) (HF : Hid (IsDoc f ns)) (h1 : 1 ≤ wd) (h2 : wd ≤ 1000) (hfit : ¬ (flatT f).length ≤ wd) :
    Calls Try.prog 6 #[.slice p n c, .int .i64 (wd : Int)] w (RB true w) := by
  have HN : Hid (ns.length ≤ 1000000) := Lib.hid (by rw [HL.out]; omega)
  have LO := Lib.hid (fun W (hW : Below w.heap.size w W) => long_any _ ns W (H.out.below hW) HN.out)
  rw [LG.out] at LO
  have g60 : decide ((60 : Int) < (n : Int)) = false := by simp; omega
  have z0 := zw_nil
  have z1 := zw_emp
  have g1 : decide ((wd : Int) < 1) = false := by simp; omega
  have g2 : decide ((1000 : Int) < (wd : Int)) = false := by simp; omega
  have hg := group_lay wd f
  obtain ⟨X, hX⟩ : ∃ X, X = flatT f := ⟨_, rfl⟩
  obtain ⟨Y, hY⟩ : ∃ Y, Y = layT wd f 0 0 false := ⟨_, rfl⟩
  rw [← hX, ← hY] at hg
  rw [← hX] at hfit
  rw [if_neg hfit] at hg
  have HX := Lib.hid hX
  have HY := Lib.hid hY
  have GY := Lib.hid hg
  have t1 : decide (((bs X).size : Int) ≤ (wd : Int)) = false := by rw [bs_size]; simp; omega
  have t2 : decide ((bs X).size ≤ wd) = false := by rw [bs_size]; simp; omega
  clear hX hY hg hfit
  go_enter Try.func6, Try.ntmps6
  go_wp2_with fail
  refine (awake_any _).mono ?_
  rintro e w1 ⟨rfl, b1⟩
  have B1 := Lib.hid b1
  clear b1
  go_wp2_with fail
  refine (LO.out _ B1.out).mono ?_
  rintro e w2 ⟨rfl, rfl⟩
  go_wp2_with fail
  refine (own_bel _ ns w _ H.out HN.out B1.out).mono ?_
  rintro e w3 ⟨v3, rfl, h3, b3⟩
  have B3 := Lib.hid (B1.out.trans (b3.mono B1.out.size))
  clear b3
  have H3 := Lib.hid h3
  clear h3
  go_wp2_with fail
  refine (group_any _ ns _ H3.out (by have := HL.out; omega)).mono ?_
  rintro e w4 ⟨v4, rfl, h4, b4⟩
  have B4 := Lib.hid (B3.out.trans (b4.mono B3.out.size))
  clear b4
  rw [make_group] at h4
  have H4 := Lib.hid h4
  clear h4
  go_wp2_with fail
  refine (own_bel _ ns w _ H.out HN.out B4.out).mono ?_
  rintro e w5 ⟨v5, rfl, h5, b5⟩
  have H4_5 := Lib.hid (H4.out.below b5)
  have B5 := Lib.hid (B4.out.trans (b5.mono B4.out.size))
  clear b5
  have H5 := Lib.hid h5
  clear h5
  go_wp2_with fail
  refine (fyes _ ns f _ H5.out HF.out).mono ?_
  rintro e w6 ⟨rfl, b6⟩
  have H4_6 := Lib.hid (H4_5.out.below b6)
  have B6 := Lib.hid (B5.out.trans (b6.mono B5.out.size))
  clear b6
  rw [← HX.out]
  go_wp2_with fail
  refine (lyes _ (gN :: ns) (.cons gN f .nil) wd _ H4_6.out (group_doc ns f HF.out (by rw [HL.out]; omega)) h1 h2).mono ?_
  rintro e w7 ⟨rfl, b7⟩
  have B7 := Lib.hid (B6.out.trans (b7.mono B6.out.size))
  clear b7
  rw [GY.out]
  go_wp2_with fail
  refine (own_bel _ ns w _ H.out HN.out B7.out).mono ?_
  rintro e w8 ⟨v8, rfl, h8, b8⟩
  have B8 := Lib.hid (B7.out.trans (b8.mono B7.out.size))
  clear b8
  have H8 := Lib.hid h8
  clear h8
  go_wp2_with fail
  refine (lyes _ ns f wd _ H8.out HF.out h1 h2).mono ?_
  rintro e w9 ⟨rfl, b9⟩
  have B9 := Lib.hid (B8.out.trans (b9.mono B8.out.size))
  clear b9
  rw [← HY.out]
  go_wp2_with fail
  go_ret
  exact ⟨rfl, B9.out⟩
theorem wide_far (p : Option Addr) (n c : Nat) (wd : Int) (w : World) (h60 : 60 < n) : Calls Try.prog 6 #[.slice p n c, .int .i64 wd] w (RB true w) := by
  have g60 : decide ((60 : Int) < (n : Int)) = true := by simp; omega
  go_enter Try.func6, Try.ntmps6
  go_wp2_with fail
  refine (awake_any _).mono ?_
  rintro e w1 ⟨rfl, b1⟩
  have B1 := Lib.hid b1
  clear b1
  go_wp2_with fail
  refine (awake_any _).mono ?_
  rintro e w2 ⟨rfl, b2⟩
  have B2 := Lib.hid (B1.out.trans (b2.mono B1.out.size))
  clear b2
  go_wp2_with fail
  go_ret
  exact ⟨rfl, B2.out⟩
set_option maxHeartbeats 4000000 in
theorem wide_long (p : Option Addr) (n c : Nat) (ns : List Nd) (wd : Int) (w : World) (H : Hid (NodesAt w (.slice p n c) ns)) (HL : Hid (ns.length = n)) (h60 : n ≤ 60) (LG : Hid (longB ns = true)) :
    Calls Try.prog 6 #[.slice p n c, .int .i64 wd] w (RB true w) := by
  have HN : Hid (ns.length ≤ 1000000) := Lib.hid (by rw [HL.out]; omega)
  have LO := Lib.hid (fun W (hW : Below w.heap.size w W) => long_any _ ns W (H.out.below hW) HN.out)
  rw [LG.out] at LO
  have g60 : decide ((60 : Int) < (n : Int)) = false := by simp; omega
  go_enter Try.func6, Try.ntmps6
  go_wp2_with fail
  refine (awake_any _).mono ?_
  rintro e w1 ⟨rfl, b1⟩
  have B1 := Lib.hid b1
  clear b1
  go_wp2_with fail
  refine (LO.out _ B1.out).mono ?_
  rintro e w2 ⟨rfl, rfl⟩
  go_wp2_with fail
  refine (awake_any _).mono ?_
  rintro e w3 ⟨rfl, b3⟩
  have B3 := Lib.hid (B1.out.trans (b3.mono B1.out.size))
  clear b3
  go_wp2_with fail
  go_ret
  exact ⟨rfl, B3.out⟩
set_option maxHeartbeats 4000000 in
theorem wide_low (p : Option Addr) (n c : Nat) (ns : List Nd) (wd : Int) (w : World) (H : Hid (NodesAt w (.slice p n c) ns)) (HL : Hid (ns.length = n)) (h60 : n ≤ 60) (LG : Hid (longB ns = false)) (hw : wd < 1) :
    Calls Try.prog 6 #[.slice p n c, .int .i64 wd] w (RB true w) := by
  have HN : Hid (ns.length ≤ 1000000) := Lib.hid (by rw [HL.out]; omega)
  have LO := Lib.hid (fun W (hW : Below w.heap.size w W) => long_any _ ns W (H.out.below hW) HN.out)
  rw [LG.out] at LO
  have g60 : decide ((60 : Int) < (n : Int)) = false := by simp; omega
  go_enter Try.func6, Try.ntmps6
  go_wp2_with fail
  refine (awake_any _).mono ?_
  rintro e w1 ⟨rfl, b1⟩
  have B1 := Lib.hid b1
  clear b1
  go_wp2_with fail
  refine (LO.out _ B1.out).mono ?_
  rintro e w2 ⟨rfl, rfl⟩
  go_wp2_with fail
  refine (awake_any _).mono ?_
  rintro e w3 ⟨rfl, b3⟩
  have B3 := Lib.hid (B1.out.trans (b3.mono B1.out.size))
  clear b3
  go_wp2_with fail
  go_ret
  exact ⟨rfl, B3.out⟩
set_option maxHeartbeats 4000000 in
theorem wide_high (p : Option Addr) (n c : Nat) (ns : List Nd) (wd : Int) (w : World) (H : Hid (NodesAt w (.slice p n c) ns)) (HL : Hid (ns.length = n)) (h60 : n ≤ 60) (LG : Hid (longB ns = false)) (hw : 1000 < wd) :
    Calls Try.prog 6 #[.slice p n c, .int .i64 wd] w (RB true w) := by
  have HN : Hid (ns.length ≤ 1000000) := Lib.hid (by rw [HL.out]; omega)
  have LO := Lib.hid (fun W (hW : Below w.heap.size w W) => long_any _ ns W (H.out.below hW) HN.out)
  rw [LG.out] at LO
  have g60 : decide ((60 : Int) < (n : Int)) = false := by simp; omega
  go_enter Try.func6, Try.ntmps6
  go_wp2_with fail
  refine (awake_any _).mono ?_
  rintro e w1 ⟨rfl, b1⟩
  have B1 := Lib.hid b1
  clear b1
  go_wp2_with fail
  refine (LO.out _ B1.out).mono ?_
  rintro e w2 ⟨rfl, rfl⟩
  go_wp2_with fail
  refine (awake_any _).mono ?_
  rintro e w3 ⟨rfl, b3⟩
  have B3 := Lib.hid (B1.out.trans (b3.mono B1.out.size))
  clear b3
  go_wp2_with fail
  go_ret
  exact ⟨rfl, B3.out⟩
theorem wide_walk (v : Value) (ns : List Nd) (wd : Int) (w : World) (h : NodesAt w v ns) : Calls Try.prog 6 #[v, .int .i64 wd] w (RB true w) := by
  obtain ⟨p, c, rfl⟩ := node_form h
  by_cases h60 : 60 < ns.length
  · exact wide_far p _ c wd w h60
  · cases hl : longB ns
    · by_cases h1 : wd < 1
      · exact wide_low p _ c ns wd w (Lib.hid h) (Lib.hid rfl) (by omega) (Lib.hid hl) h1
      · by_cases h2 : 1000 < wd
        · exact wide_high p _ c ns wd w (Lib.hid h) (Lib.hid rfl) (by omega) (Lib.hid hl) h2
        · obtain ⟨m, rfl⟩ : ∃ m : Nat, wd = m := ⟨wd.toNat, by omega⟩
          cases hd : docB ns
          · exact wide_no p _ c ns m w (Lib.hid h) (Lib.hid rfl) (by omega) (Lib.hid hl) (Lib.hid hd) (by omega) (by omega)
          · obtain ⟨f, hf⟩ := isDoc_of ns hd (fun x hx => by have := longB_le ns hl x hx; omega)
            by_cases hfit : (flatT f).length ≤ m
            · exact wide_fit p _ c ns m w (Lib.hid h) (Lib.hid rfl) (by omega) (Lib.hid hl) f (Lib.hid hf) (by omega) (by omega) hfit
            · exact wide_not p _ c ns m w (Lib.hid h) (Lib.hid rfl) (by omega) (Lib.hid hl) f (Lib.hid hf) (by omega) (by omega) hfit
    · exact wide_long p _ c ns wd w (Lib.hid h) (Lib.hid rfl) (by omega) (Lib.hid hl)
end Go.Proofs.Ytbpenjdpalhmaaa
