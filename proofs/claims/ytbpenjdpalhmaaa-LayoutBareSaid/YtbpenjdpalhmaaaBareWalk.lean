/- The walk of LayoutBare. -/
import Derived.Test.YtbpenjdpalhmaaaLayJ
namespace Go.Proofs.Ytbpenjdpalhmaaa
open Go.Shelf Go.RowKit Go.Lib Go.Sort Go.Proofs.TreeMath
theorem zb_nil : (bs []).toList = [] := by rw [ByteArray.toList_eq]; rfl
theorem zb_emp : (bs []).toList.isEmpty = true := by rw [zb_nil]; rfl
set_option maxHeartbeats 4000000 in
theorem bare_no (p : Option Addr) (n c : Nat) (ns : List Nd) (wd : Int) (w : World) (H : Hid (NodesAt w (.slice p n c) ns)) (HL : Hid (ns.length = n)) (h60 : n ≤ 60) (LG : Hid (longB ns = false)) (HD : Hid (docB ns = false)) :
    Calls Try.prog 5 #[.slice p n c, .int .i64 wd] w (RB true w) := by
  have HN : Hid (ns.length ≤ 1000000) := Lib.hid (by rw [HL.out]; omega)
  have LO := Lib.hid (fun W (hW : Below w.heap.size w W) => long_any _ ns W (H.out.below hW) HN.out)
  rw [LG.out] at LO
  have g60 : decide ((60 : Int) < (n : Int)) = false := by simp; omega
  have z0 := zb_nil
  have z1 := zb_emp
  go_enter Try.func5, Try.ntmps5
  go_wp2_with fail
  refine (awake_any _).mono ?_
  rintro e w1 ⟨rfl, b1⟩
  have B1 := Lib.hid b1
  clear b1
  go_wp2_with fail
  refine (LO.out _ B1.out).mono ?_
  rintro e w2 ⟨rfl, rfl⟩
  go_wp2_with fail
  refine (own_bel _ ns w _ H.out HN.out B1.out).mono ?_
  rintro e w3 ⟨v3, rfl, h3, b3⟩
  have B3 := Lib.hid (B1.out.trans (b3.mono B1.out.size))
  clear b3
  have H3 := Lib.hid h3
  clear h3
  go_wp2_with fail
  refine (lno _ ns wd _ H3.out HN.out HD.out).mono ?_
  rintro e w4 ⟨rfl, b4⟩
  have B4 := Lib.hid (B3.out.trans (b4.mono B3.out.size))
  clear b4
  go_wp2_with fail
  refine (own_bel _ ns w _ H.out HN.out B4.out).mono ?_
  rintro e w5 ⟨v5, rfl, h5, b5⟩
  have B5 := Lib.hid (B4.out.trans (b5.mono B4.out.size))
  clear b5
  have H5 := Lib.hid h5
  clear h5
  go_wp2_with fail
  refine (fno _ ns _ H5.out HN.out HD.out).mono ?_
  rintro e w6 ⟨rfl, b6⟩
  have B6 := Lib.hid (B5.out.trans (b6.mono B5.out.size))
  clear b6
  go_wp2_with fail
  go_ret
  exact ⟨rfl, B6.out⟩
set_option maxHeartbeats 4000000 in
theorem bare_bad (p : Option Addr) (n c : Nat) (ns : List Nd) (wd : Int) (w : World) (H : Hid (NodesAt w (.slice p n c) ns)) (HL : Hid (ns.length = n)) (h60 : n ≤ 60) (LG : Hid (longB ns = false)) (HD : Hid (docB ns = true)) (f : F) (HF : Hid (IsDoc f ns)) (HW : Hid (wd < 1 ∨ 1000 < wd)) :
    Calls Try.prog 5 #[.slice p n c, .int .i64 wd] w (RB true w) := by
  have HN : Hid (ns.length ≤ 1000000) := Lib.hid (by rw [HL.out]; omega)
  have LO := Lib.hid (fun W (hW : Below w.heap.size w W) => long_any _ ns W (H.out.below hW) HN.out)
  rw [LG.out] at LO
  have g60 : decide ((60 : Int) < (n : Int)) = false := by simp; omega
  have z0 := zb_nil
  have z1 := zb_emp
  go_enter Try.func5, Try.ntmps5
  go_wp2_with fail
  refine (awake_any _).mono ?_
  rintro e w1 ⟨rfl, b1⟩
  have B1 := Lib.hid b1
  clear b1
  go_wp2_with fail
  refine (LO.out _ B1.out).mono ?_
  rintro e w2 ⟨rfl, rfl⟩
  go_wp2_with fail
  refine (own_bel _ ns w _ H.out HN.out B1.out).mono ?_
  rintro e w3 ⟨v3, rfl, h3, b3⟩
  have B3 := Lib.hid (B1.out.trans (b3.mono B1.out.size))
  clear b3
  have H3 := Lib.hid h3
  clear h3
  go_wp2_with fail
  refine (lwd _ ns wd _ H3.out HN.out HD.out HW.out).mono ?_
  rintro e w4 ⟨rfl, b4⟩
  have B4 := Lib.hid (B3.out.trans (b4.mono B3.out.size))
  clear b4
  go_wp2_with fail
  refine (own_bel _ ns w _ H.out HN.out B4.out).mono ?_
  rintro e w5 ⟨v5, rfl, h5, b5⟩
  have B5 := Lib.hid (B4.out.trans (b5.mono B4.out.size))
  clear b5
  have H5 := Lib.hid h5
  clear h5
  go_wp2_with fail
  refine (fyes _ ns f _ H5.out HF.out).mono ?_
  rintro e w6 ⟨rfl, b6⟩
  have B6 := Lib.hid (B5.out.trans (b6.mono B5.out.size))
  clear b6
  go_wp2_with fail
  go_ret
  exact ⟨rfl, B6.out⟩
set_option maxHeartbeats 4000000 in
theorem bare_yes (p : Option Addr) (n c : Nat) (ns : List Nd) (wd : Nat) (w : World) (H : Hid (NodesAt w (.slice p n c) ns)) (HL : Hid (ns.length = n)) (h60 : n ≤ 60) (LG : Hid (longB ns = false)) (f : F) (HF : Hid (IsDoc f ns)) (h1 : 1 ≤ wd) (h2 : wd ≤ 1000) :
    Calls Try.prog 5 #[.slice p n c, .int .i64 (wd : Int)] w (RB true w) := by
  have HN : Hid (ns.length ≤ 1000000) := Lib.hid (by rw [HL.out]; omega)
  have LO := Lib.hid (fun W (hW : Below w.heap.size w W) => long_any _ ns W (H.out.below hW) HN.out)
  rw [LG.out] at LO
  have g60 : decide ((60 : Int) < (n : Int)) = false := by simp; omega
  have z0 := zb_nil
  have z1 := zb_emp
  have hsz : ns.length ≤ 60 := by rw [HL.out]; exact h60
  have hfz : f.sz = ns.length := by rw [← F.flat_length, HF.out.2.2.1]
  have bX := flat_len f HF.out.2.2.2.1
  have bY := lay_len wd f HF.out.2.2.2.1 0 0 false (by omega)
  have hXY := bare_lay wd f 0 0 false
  obtain ⟨X, hX⟩ : ∃ X, X = flatT f := ⟨_, rfl⟩
  obtain ⟨Y, hY⟩ : ∃ Y, Y = layT wd f 0 0 false := ⟨_, rfl⟩
  rw [← hX] at bX hXY
  rw [← hY] at bY hXY
  have HX := Lib.hid hX
  have HY := Lib.hid hY
  have BX := Lib.hid (fun W => bare_any (bs X) W (by rw [bs_size]; omega))
  have BY := Lib.hid (fun W => bare_any (bs Y) W (by rw [bs_size]; omega))
  rw [bs_list] at BX BY
  rw [hXY] at BY
  obtain ⟨Z, hZ⟩ : ∃ Z, Z = bareL X := ⟨_, rfl⟩
  rw [← hZ] at BX BY
  clear hX hY hXY bX bY hfz hsz hZ
  go_enter Try.func5, Try.ntmps5
  go_wp2_with fail
  refine (awake_any _).mono ?_
  rintro e w1 ⟨rfl, b1⟩
  have B1 := Lib.hid b1
  clear b1
  go_wp2_with fail
  refine (LO.out _ B1.out).mono ?_
  rintro e w2 ⟨rfl, rfl⟩
  go_wp2_with fail
  refine (own_bel _ ns w _ H.out HN.out B1.out).mono ?_
  rintro e w3 ⟨v3, rfl, h3, b3⟩
  have B3 := Lib.hid (B1.out.trans (b3.mono B1.out.size))
  clear b3
  have H3 := Lib.hid h3
  clear h3
  go_wp2_with fail
  refine (lyes _ ns f wd _ H3.out HF.out h1 h2).mono ?_
  rintro e w4 ⟨rfl, b4⟩
  have B4 := Lib.hid (B3.out.trans (b4.mono B3.out.size))
  clear b4
  rw [← HY.out]
  go_wp2_with fail
  refine (own_bel _ ns w _ H.out HN.out B4.out).mono ?_
  rintro e w5 ⟨v5, rfl, h5, b5⟩
  have B5 := Lib.hid (B4.out.trans (b5.mono B4.out.size))
  clear b5
  have H5 := Lib.hid h5
  clear h5
  go_wp2_with fail
  refine (fyes _ ns f _ H5.out HF.out).mono ?_
  rintro e w6 ⟨rfl, b6⟩
  have B6 := Lib.hid (B5.out.trans (b6.mono B5.out.size))
  clear b6
  rw [← HX.out]
  go_wp2_with fail
  refine (BY.out _).mono ?_
  rintro e w7 ⟨rfl, rfl⟩
  go_wp2_with fail
  refine (BX.out _).mono ?_
  rintro e w8 ⟨rfl, rfl⟩
  go_wp2_with fail
  go_ret
  exact ⟨rfl, B6.out⟩
theorem bare_far (p : Option Addr) (n c : Nat) (wd : Int) (w : World) (h60 : 60 < n) : Calls Try.prog 5 #[.slice p n c, .int .i64 wd] w (RB true w) := by
  have g60 : decide ((60 : Int) < (n : Int)) = true := by simp; omega
  go_enter Try.func5, Try.ntmps5
  go_wp2_with fail
  refine (awake_any _).mono ?_
  rintro e w1 ⟨rfl, b1⟩
  have B1 := Lib.hid b1
  clear b1
  go_wp2_with fail
  refine (awake_any _).mono ?_
  rintro e w2 ⟨rfl, b2⟩
  have B2 := Lib.hid (B1.out.trans (b2.mono B1.out.size))
  clear b2
  go_wp2_with fail
  go_ret
  exact ⟨rfl, B2.out⟩
set_option maxHeartbeats 4000000 in
theorem bare_long (p : Option Addr) (n c : Nat) (ns : List Nd) (wd : Int) (w : World) (H : Hid (NodesAt w (.slice p n c) ns)) (HL : Hid (ns.length = n)) (h60 : n ≤ 60) (LG : Hid (longB ns = true)) :
    Calls Try.prog 5 #[.slice p n c, .int .i64 wd] w (RB true w) := by
  have HN : Hid (ns.length ≤ 1000000) := Lib.hid (by rw [HL.out]; omega)
  have LO := Lib.hid (fun W (hW : Below w.heap.size w W) => long_any _ ns W (H.out.below hW) HN.out)
  rw [LG.out] at LO
  have g60 : decide ((60 : Int) < (n : Int)) = false := by simp; omega
  go_enter Try.func5, Try.ntmps5
  go_wp2_with fail
  refine (awake_any _).mono ?_
  rintro e w1 ⟨rfl, b1⟩
  have B1 := Lib.hid b1
  clear b1
  go_wp2_with fail
  refine (LO.out _ B1.out).mono ?_
  rintro e w2 ⟨rfl, rfl⟩
  go_wp2_with fail
  refine (awake_any _).mono ?_
  rintro e w3 ⟨rfl, b3⟩
  have B3 := Lib.hid (B1.out.trans (b3.mono B1.out.size))
  clear b3
  go_wp2_with fail
  go_ret
  exact ⟨rfl, B3.out⟩
theorem bare_walk (v : Value) (ns : List Nd) (wd : Int) (w : World) (h : NodesAt w v ns) : Calls Try.prog 5 #[v, .int .i64 wd] w (RB true w) := by
  obtain ⟨p, c, rfl⟩ := node_form h
  by_cases h60 : 60 < ns.length
  · exact bare_far p _ c wd w h60
  · cases hl : longB ns
    · cases hd : docB ns
      · exact bare_no p _ c ns wd w (Lib.hid h) (Lib.hid rfl) (by omega) (Lib.hid hl) (Lib.hid hd)
      · obtain ⟨f, hf⟩ := isDoc_of ns hd (fun x hx => by have := longB_le ns hl x hx; omega)
        by_cases h1 : wd < 1 ∨ 1000 < wd
        · exact bare_bad p _ c ns wd w (Lib.hid h) (Lib.hid rfl) (by omega) (Lib.hid hl) (Lib.hid hd) f (Lib.hid hf) (Lib.hid h1)
        · obtain ⟨m, rfl⟩ : ∃ m : Nat, wd = m := ⟨wd.toNat, by omega⟩
          exact bare_yes p _ c ns m w (Lib.hid h) (Lib.hid rfl) (by omega) (Lib.hid hl) f (Lib.hid hf) (by omega) (by omega)
    · exact bare_long p _ c ns wd w (Lib.hid h) (Lib.hid rfl) (by omega) (Lib.hid hl)
end Go.Proofs.Ytbpenjdpalhmaaa
