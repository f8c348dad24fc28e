/- The walk of LayoutIs. -/
import Derived.Test.YtbpenjdpalhmaaaLayE
namespace Go.Proofs.Ytbpenjdpalhmaaa
open Go.Shelf Go.RowKit Go.Lib Go.Sort Go.Proofs.TreeMath
theorem z_nil : (bs []).toList = [] := by rw [ByteArray.toList_eq]; rfl
theorem z_emp : (bs []).toList.isEmpty = true := by rw [z_nil]; rfl
set_option maxHeartbeats 4000000 in
theorem is_no (p : Option Addr) (n c : Nat) (ns : List Nd) (wd : Int) (w : World) (H : Hid (NodesAt w (.slice p n c) ns)) (HL : Hid (ns.length = n)) (h60 : n ≤ 60) (LG : Hid (longB ns = false)) (HD : Hid (docB ns = false)) :
    Calls Try.prog 3 #[.slice p n c, .int .i64 wd] w (RB true w) := by
  have HN : Hid (ns.length ≤ 1000000) := Lib.hid (by rw [HL.out]; omega)
  have HT : Hid (∀ x ∈ ns, x.text.size ≤ 1000000) := Lib.hid (fun x hx => by have := longB_le ns LG.out x hx; omega)
  have LO := Lib.hid (fun W (hW : Below w.heap.size w W) => long_any _ ns W (H.out.below hW) HN.out)
  rw [LG.out] at LO
  have g60 : decide ((60 : Int) < (n : Int)) = false := by simp; omega
  have z0 := z_nil
  have z1 := z_emp
  have RI0 := Lib.hid (fun W (hW : Below w.heap.size w W) => ref_right _ ns W (H.out.below hW) HN.out HT.out)
  rw [HD.out] at RI0
  go_enter Try.func3, Try.ntmps3
  go_wp2_with fail
  refine (awake_any _).mono ?_
  rintro e w1 ⟨rfl, b1⟩
  have B1 := Lib.hid b1
  clear b1
  go_wp2_with fail
  refine (LO.out _ B1.out).mono ?_
  rintro e w2 ⟨rfl, rfl⟩
  go_wp2_with fail
  refine (own_bel _ ns w _ H.out HN.out B1.out).mono ?_
  rintro e w3 ⟨v3, rfl, h3, b3⟩
  have B3 := Lib.hid (B1.out.trans (b3.mono B1.out.size))
  clear b3
  have H3 := Lib.hid h3
  clear h3
  go_wp2_with fail
  refine (lno _ ns wd _ H3.out HN.out HD.out).mono ?_
  rintro e w4 ⟨rfl, b4⟩
  have B4 := Lib.hid (B3.out.trans (b4.mono B3.out.size))
  clear b4
  go_wp2_with fail
  refine (own_bel _ ns w _ H.out HN.out B4.out).mono ?_
  rintro e w5 ⟨v5, rfl, h5, b5⟩
  have B5 := Lib.hid (B4.out.trans (b5.mono B4.out.size))
  clear b5
  have H5 := Lib.hid h5
  clear h5
  go_wp2_with fail
  refine (fno _ ns _ H5.out HN.out HD.out).mono ?_
  rintro e w6 ⟨rfl, b6⟩
  have B6 := Lib.hid (B5.out.trans (b6.mono B5.out.size))
  clear b6
  go_wp2_with fail
  refine (RI0.out _ B6.out).mono ?_
  rintro e w7 ⟨rfl, b7⟩
  have B7 := Lib.hid (B6.out.trans (b7.mono B6.out.size))
  clear b7
  go_wp2_with fail
  refine (own_bel _ ns w _ H.out HN.out B7.out).mono ?_
  rintro e w8 ⟨v8, rfl, h8, b8⟩
  have B8 := Lib.hid (B7.out.trans (b8.mono B7.out.size))
  clear b8
  have H8 := Lib.hid h8
  clear h8
  go_wp2_with fail
  refine (check_any _ ns _ H8.out HN.out).mono ?_
  rintro e w9 ⟨rfl, b9⟩
  have B9 := Lib.hid (B8.out.trans (b9.mono B8.out.size))
  clear b9
  rw [chk_no HD.out]
  go_wp2_with fail
  go_ret
  exact ⟨rfl, B9.out⟩
set_option maxHeartbeats 4000000 in
theorem is_low (p : Option Addr) (n c : Nat) (ns : List Nd) (wd : Int) (w : World) (H : Hid (NodesAt w (.slice p n c) ns)) (HL : Hid (ns.length = n)) (h60 : n ≤ 60) (LG : Hid (longB ns = false)) (HD : Hid (docB ns = true)) (f : F) (HF : Hid (IsDoc f ns)) (h1 : wd < 1) :
    Calls Try.prog 3 #[.slice p n c, .int .i64 wd] w (RB true w) := by
  have HN : Hid (ns.length ≤ 1000000) := Lib.hid (by rw [HL.out]; omega)
  have HT : Hid (∀ x ∈ ns, x.text.size ≤ 1000000) := Lib.hid (fun x hx => by have := longB_le ns LG.out x hx; omega)
  have LO := Lib.hid (fun W (hW : Below w.heap.size w W) => long_any _ ns W (H.out.below hW) HN.out)
  rw [LG.out] at LO
  have g60 : decide ((60 : Int) < (n : Int)) = false := by simp; omega
  have z0 := z_nil
  have z1 := z_emp
  have RI0 := Lib.hid (fun W (hW : Below w.heap.size w W) => ref_right _ ns W (H.out.below hW) HN.out HT.out)
  rw [HD.out] at RI0
  have RF := Lib.hid (fun W (hW : Below w.heap.size w W) => ref_flat_any _ ns f W (H.out.below hW) HF.out)
  obtain ⟨X, hX⟩ : ∃ X, X = flatT f := ⟨_, rfl⟩
  rw [← hX] at RF
  have HX := Lib.hid hX
  clear hX
  go_enter Try.func3, Try.ntmps3
  go_wp2_with fail
  refine (awake_any _).mono ?_
  rintro e w1 ⟨rfl, b1⟩
  have B1 := Lib.hid b1
  clear b1
  go_wp2_with fail
  refine (LO.out _ B1.out).mono ?_
  rintro e w2 ⟨rfl, rfl⟩
  go_wp2_with fail
  refine (own_bel _ ns w _ H.out HN.out B1.out).mono ?_
  rintro e w3 ⟨v3, rfl, h3, b3⟩
  have B3 := Lib.hid (B1.out.trans (b3.mono B1.out.size))
  clear b3
  have H3 := Lib.hid h3
  clear h3
  go_wp2_with fail
  refine (lwd _ ns wd _ H3.out HN.out HD.out (by omega)).mono ?_
  rintro e w4 ⟨rfl, b4⟩
  have B4 := Lib.hid (B3.out.trans (b4.mono B3.out.size))
  clear b4
  go_wp2_with fail
  refine (own_bel _ ns w _ H.out HN.out B4.out).mono ?_
  rintro e w5 ⟨v5, rfl, h5, b5⟩
  have B5 := Lib.hid (B4.out.trans (b5.mono B4.out.size))
  clear b5
  have H5 := Lib.hid h5
  clear h5
  go_wp2_with fail
  refine (fyes _ ns f _ H5.out HF.out).mono ?_
  rintro e w6 ⟨rfl, b6⟩
  have B6 := Lib.hid (B5.out.trans (b6.mono B5.out.size))
  clear b6
  rw [← HX.out]
  go_wp2_with fail
  refine (RI0.out _ B6.out).mono ?_
  rintro e w7 ⟨rfl, b7⟩
  have B7 := Lib.hid (B6.out.trans (b7.mono B6.out.size))
  clear b7
  go_wp2_with fail
  refine (RF.out _ B7.out).mono ?_
  rintro e w8 ⟨rfl, b8⟩
  have B8 := Lib.hid (B7.out.trans (b8.mono B7.out.size))
  clear b8
  go_wp2_with fail
  refine (own_bel _ ns w _ H.out HN.out B8.out).mono ?_
  rintro e w9 ⟨v9, rfl, h9, b9⟩
  have B9 := Lib.hid (B8.out.trans (b9.mono B8.out.size))
  clear b9
  have H9 := Lib.hid h9
  clear h9
  go_wp2_with fail
  refine (check_any _ ns _ H9.out HN.out).mono ?_
  rintro e w10 ⟨rfl, b10⟩
  have B10 := Lib.hid (B9.out.trans (b10.mono B9.out.size))
  clear b10
  rw [chk_yes HD.out]
  go_wp2_with fail
  go_ret
  exact ⟨rfl, B10.out⟩
set_option maxHeartbeats 4000000 in
theorem is_high (p : Option Addr) (n c : Nat) (ns : List Nd) (wd : Int) (w : World) (H : Hid (NodesAt w (.slice p n c) ns)) (HL : Hid (ns.length = n)) (h60 : n ≤ 60) (LG : Hid (longB ns = false)) (HD : Hid (docB ns = true)) (f : F) (HF : Hid (IsDoc f ns)) (h1 : 1000 < wd) :
    Calls Try.prog 3 #[.slice p n c, .int .i64 wd] w (RB true w) := by
  have HN : Hid (ns.length ≤ 1000000) := Lib.hid (by rw [HL.out]; omega)
  have HT : Hid (∀ x ∈ ns, x.text.size ≤ 1000000) := Lib.hid (fun x hx => by have := longB_le ns LG.out x hx; omega)
  have LO := Lib.hid (fun W (hW : Below w.heap.size w W) => long_any _ ns W (H.out.below hW) HN.out)
  rw [LG.out] at LO
  have g60 : decide ((60 : Int) < (n : Int)) = false := by simp; omega
  have z0 := z_nil
  have z1 := z_emp
  have RI0 := Lib.hid (fun W (hW : Below w.heap.size w W) => ref_right _ ns W (H.out.below hW) HN.out HT.out)
  rw [HD.out] at RI0
  have RF := Lib.hid (fun W (hW : Below w.heap.size w W) => ref_flat_any _ ns f W (H.out.below hW) HF.out)
  obtain ⟨X, hX⟩ : ∃ X, X = flatT f := ⟨_, rfl⟩
  rw [← hX] at RF
  have HX := Lib.hid hX
  clear hX
  go_enter Try.func3, Try.ntmps3
  go_wp2_with fail
  refine (awake_any _).mono ?_
  rintro e w1 ⟨rfl, b1⟩
  have B1 := Lib.hid b1
  clear b1
  go_wp2_with fail
  refine (LO.out _ B1.out).mono ?_
  rintro e w2 ⟨rfl, rfl⟩
  go_wp2_with fail
  refine (own_bel _ ns w _ H.out HN.out B1.out).mono ?_
  rintro e w3 ⟨v3, rfl, h3, b3⟩
  have B3 := Lib.hid (B1.out.trans (b3.mono B1.out.size))
  clear b3
  have H3 := Lib.hid h3
  clear h3
  go_wp2_with fail
  refine (lwd _ ns wd _ H3.out HN.out HD.out (by omega)).mono ?_
  rintro e w4 ⟨rfl, b4⟩
  have B4 := Lib.hid (B3.out.trans (b4.mono B3.out.size))
  clear b4
  go_wp2_with fail
  refine (own_bel _ ns w _ H.out HN.out B4.out).mono ?_
  rintro e w5 ⟨v5, rfl, h5, b5⟩
  have B5 := Lib.hid (B4.out.trans (b5.mono B4.out.size))
  clear b5
  have H5 := Lib.hid h5
  clear h5
  go_wp2_with fail
  refine (fyes _ ns f _ H5.out HF.out).mono ?_
  rintro e w6 ⟨rfl, b6⟩
  have B6 := Lib.hid (B5.out.trans (b6.mono B5.out.size))
  clear b6
  rw [← HX.out]
  go_wp2_with fail
  refine (RI0.out _ B6.out).mono ?_
  rintro e w7 ⟨rfl, b7⟩
  have B7 := Lib.hid (B6.out.trans (b7.mono B6.out.size))
  clear b7
  go_wp2_with fail
  refine (RF.out _ B7.out).mono ?_
  rintro e w8 ⟨rfl, b8⟩
  have B8 := Lib.hid (B7.out.trans (b8.mono B7.out.size))
  clear b8
  go_wp2_with fail
  refine (own_bel _ ns w _ H.out HN.out B8.out).mono ?_
  rintro e w9 ⟨v9, rfl, h9, b9⟩
  have B9 := Lib.hid (B8.out.trans (b9.mono B8.out.size))
  clear b9
  have H9 := Lib.hid h9
  clear h9
  go_wp2_with fail
  refine (check_any _ ns _ H9.out HN.out).mono ?_
  rintro e w10 ⟨rfl, b10⟩
  have B10 := Lib.hid (B9.out.trans (b10.mono B9.out.size))
  clear b10
  rw [chk_yes HD.out]
  go_wp2_with fail
  go_ret
  exact ⟨rfl, B10.out⟩
set_option maxHeartbeats 4000000 in
theorem is_yes (p : Option Addr) (n c : Nat) (ns : List Nd) (wd : Nat) (w : World) (H : Hid (NodesAt w (.slice p n c) ns)) (HL : Hid (ns.length = n)) (h60 : n ≤ 60) (LG : Hid (longB ns = false)) (HD : Hid (docB ns = true)) (f : F) (HF : Hid (IsDoc f ns)) (h1 : 1 ≤ wd) (h2 : wd ≤ 1000) :
    Calls Try.prog 3 #[.slice p n c, .int .i64 (wd : Int)] w (RB true w) := by
  have HN : Hid (ns.length ≤ 1000000) := Lib.hid (by rw [HL.out]; omega)
  have HT : Hid (∀ x ∈ ns, x.text.size ≤ 1000000) := Lib.hid (fun x hx => by have := longB_le ns LG.out x hx; omega)
  have LO := Lib.hid (fun W (hW : Below w.heap.size w W) => long_any _ ns W (H.out.below hW) HN.out)
  rw [LG.out] at LO
  have g60 : decide ((60 : Int) < (n : Int)) = false := by simp; omega
  have z0 := z_nil
  have z1 := z_emp
  have RI0 := Lib.hid (fun W (hW : Below w.heap.size w W) => ref_right _ ns W (H.out.below hW) HN.out HT.out)
  rw [HD.out] at RI0
  have RF := Lib.hid (fun W (hW : Below w.heap.size w W) => ref_flat_any _ ns f W (H.out.below hW) HF.out)
  obtain ⟨X, hX⟩ : ∃ X, X = flatT f := ⟨_, rfl⟩
  rw [← hX] at RF
  have HX := Lib.hid hX
  clear hX
  have RL := Lib.hid (fun W (hW : Below w.heap.size w W) => ref_layout_any _ ns f wd W (H.out.below hW) HF.out (by omega))
  obtain ⟨Y, hY⟩ : ∃ Y, Y = layT wd f 0 0 false := ⟨_, rfl⟩
  rw [← hY] at RL
  have HY := Lib.hid hY
  clear hY
  have g1 : decide ((wd : Int) < 1) = false := by simp; omega
  have g2 : decide ((1000 : Int) < (wd : Int)) = false := by simp; omega
  go_enter Try.func3, Try.ntmps3
  go_wp2_with fail
  refine (awake_any _).mono ?_
  rintro e w1 ⟨rfl, b1⟩
  have B1 := Lib.hid b1
  clear b1
  go_wp2_with fail
  refine (LO.out _ B1.out).mono ?_
  rintro e w2 ⟨rfl, rfl⟩
  go_wp2_with fail
  refine (own_bel _ ns w _ H.out HN.out B1.out).mono ?_
  rintro e w3 ⟨v3, rfl, h3, b3⟩
  have B3 := Lib.hid (B1.out.trans (b3.mono B1.out.size))
  clear b3
  have H3 := Lib.hid h3
  clear h3
  go_wp2_with fail
  refine (lyes _ ns f wd _ H3.out HF.out h1 h2).mono ?_
  rintro e w4 ⟨rfl, b4⟩
  have B4 := Lib.hid (B3.out.trans (b4.mono B3.out.size))
  clear b4
  rw [← HY.out]
  go_wp2_with fail
  refine (own_bel _ ns w _ H.out HN.out B4.out).mono ?_
  rintro e w5 ⟨v5, rfl, h5, b5⟩
  have B5 := Lib.hid (B4.out.trans (b5.mono B4.out.size))
  clear b5
  have H5 := Lib.hid h5
  clear h5
  go_wp2_with fail
  refine (fyes _ ns f _ H5.out HF.out).mono ?_
  rintro e w6 ⟨rfl, b6⟩
  have B6 := Lib.hid (B5.out.trans (b6.mono B5.out.size))
  clear b6
  rw [← HX.out]
  go_wp2_with fail
  refine (RI0.out _ B6.out).mono ?_
  rintro e w7 ⟨rfl, b7⟩
  have B7 := Lib.hid (B6.out.trans (b7.mono B6.out.size))
  clear b7
  go_wp2_with fail
  refine (RF.out _ B7.out).mono ?_
  rintro e w8 ⟨rfl, b8⟩
  have B8 := Lib.hid (B7.out.trans (b8.mono B7.out.size))
  clear b8
  go_wp2_with fail
  refine (own_bel _ ns w _ H.out HN.out B8.out).mono ?_
  rintro e w9 ⟨v9, rfl, h9, b9⟩
  have B9 := Lib.hid (B8.out.trans (b9.mono B8.out.size))
  clear b9
  have H9 := Lib.hid h9
  clear h9
  go_wp2_with fail
  refine (check_any _ ns _ H9.out HN.out).mono ?_
  rintro e w10 ⟨rfl, b10⟩
  have B10 := Lib.hid (B9.out.trans (b10.mono B9.out.size))
  clear b10
  rw [chk_yes HD.out]
  go_wp2_with fail
  refine (RL.out _ B10.out).mono ?_
  rintro e w11 ⟨rfl, b11⟩
  have B11 := Lib.hid (B10.out.trans (b11.mono B10.out.size))
  clear b11
  go_wp2_with fail
  go_ret
  exact ⟨rfl, B11.out⟩
theorem is_far (p : Option Addr) (n c : Nat) (wd : Int) (w : World) (h60 : 60 < n) : Calls Try.prog 3 #[.slice p n c, .int .i64 wd] w (RB true w) := by
  have g60 : decide ((60 : Int) < (n : Int)) = true := by simp; omega
  go_enter Try.func3, Try.ntmps3
  go_wp2_with fail
  refine (awake_any _).mono ?_
  rintro e w1 ⟨rfl, b1⟩
  have B1 := Lib.hid b1
  clear b1
  go_wp2_with fail
  refine (awake_any _).mono ?_
  rintro e w2 ⟨rfl, b2⟩
  have B2 := Lib.hid (B1.out.trans (b2.mono B1.out.size))
  clear b2
  go_wp2_with fail
  go_ret
  exact ⟨rfl, B2.out⟩
theorem is_long (p : Option Addr) (n c : Nat) (ns : List Nd) (wd : Int) (w : World) (H : Hid (NodesAt w (.slice p n c) ns)) (HL : Hid (ns.length = n)) (h60 : n ≤ 60) (LG : Hid (longB ns = true)) : Calls Try.prog 3 #[.slice p n c, .int .i64 wd] w (RB true w) := by
  have LO := Lib.hid (fun W (hW : Below w.heap.size w W) => long_any _ ns W (H.out.below hW) (by rw [HL.out]; omega))
  rw [LG.out] at LO
  have g60 : decide ((60 : Int) < (n : Int)) = false := by simp; omega
  go_enter Try.func3, Try.ntmps3
  go_wp2_with fail
  refine (awake_any _).mono ?_
  rintro e w1 ⟨rfl, b1⟩
  have B1 := Lib.hid b1
  clear b1
  go_wp2_with fail
  refine (LO.out _ B1.out).mono ?_
  rintro e w2 ⟨rfl, rfl⟩
  go_wp2_with fail
  refine (awake_any _).mono ?_
  rintro e w2 ⟨rfl, b2⟩
  have B2 := Lib.hid (B1.out.trans (b2.mono B1.out.size))
  clear b2
  go_wp2_with fail
  go_ret
  exact ⟨rfl, B2.out⟩
theorem is_walk (v : Value) (ns : List Nd) (wd : Int) (w : World) (h : NodesAt w v ns) : Calls Try.prog 3 #[v, .int .i64 wd] w (RB true w) := by
  obtain ⟨p, c, rfl⟩ := node_form h
  by_cases h60 : 60 < ns.length
  · exact is_far p _ c wd w h60
  · cases hl : longB ns
    · cases hd : docB ns
      · exact is_no p _ c ns wd w (Lib.hid h) (Lib.hid rfl) (by omega) (Lib.hid hl) (Lib.hid hd)
      · obtain ⟨f, hf⟩ := isDoc_of ns hd (fun x hx => by have := longB_le ns hl x hx; omega)
        by_cases h1 : wd < 1
        · exact is_low p _ c ns wd w (Lib.hid h) (Lib.hid rfl) (by omega) (Lib.hid hl) (Lib.hid hd) f (Lib.hid hf) h1
        · by_cases h2 : 1000 < wd
          · exact is_high p _ c ns wd w (Lib.hid h) (Lib.hid rfl) (by omega) (Lib.hid hl) (Lib.hid hd) f (Lib.hid hf) h2
          · obtain ⟨m, rfl⟩ : ∃ m : Nat, wd = m := ⟨wd.toNat, by omega⟩
            exact is_yes p _ c ns m w (Lib.hid h) (Lib.hid rfl) (by omega) (Lib.hid hl) (Lib.hid hd) f (Lib.hid hf) (by omega) (by omega)
    · exact is_long p _ c ns wd w (Lib.hid h) (Lib.hid rfl) (by omega) (Lib.hid hl)
end Go.Proofs.Ytbpenjdpalhmaaa
