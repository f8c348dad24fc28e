/- The walk of SynPuts. -/
import Derived.Test.YtgbggdghgdeohaaSynV
namespace Go.Proofs.Ytgbggdghgdeohaa
open Go.RowKit Go.Proofs.TreeMath
set_option linter.unusedVariables false
set_option maxRecDepth 100000 in
set_option maxHeartbeats 8000000 in
theorem puts_a (p p2 : Option Addr) (n c n2 c2 : Nat) (ns bs : List Nd) (a : Int) (w : World) (H : Hid (NodesAt w (.slice p n c) ns)) (_HB : Hid (NodesAt w (.slice p2 n2 c2) bs)) (FW : Hid (fewB ns = false)) :
    Calls Try.prog 7 #[.slice p n c, .int .i64 a, .slice p2 n2 c2] w (RB true w) := by
  have FEW := Lib.hid (fun W (hW : Below w.heap.size w W) => few_any _ ns W (H.out.below hW))
  rw [FW.out] at FEW
  go_enter Try.func7, Try.ntmps7
  go_wp2_with fail
  refine (awake_any _).mono ?_
  rintro e w1 ⟨rfl, b1⟩
  have B1 := Lib.hid b1
  clear b1
  go_wp2_with fail
  refine (FEW.out _ B1.out).mono ?_
  rintro e w2 ⟨rfl, rfl⟩
  go_wp2_with fail
  refine (awake_any _).mono ?_
  rintro e w3 ⟨rfl, b3⟩
  have B3 := Lib.hid (B1.out.trans (b3.mono B1.out.size))
  clear b3
  go_wp2_with fail
  go_ret
  exact ⟨rfl, B3.out⟩
set_option maxRecDepth 100000 in
set_option maxHeartbeats 8000000 in
theorem puts_b (p p2 : Option Addr) (n c n2 c2 : Nat) (ns bs : List Nd) (a : Int) (w : World) (H : Hid (NodesAt w (.slice p n c) ns)) (HB : Hid (NodesAt w (.slice p2 n2 c2) bs)) (FW : Hid (fewB ns = true)) (FB : Hid (fewB bs = false)) :
    Calls Try.prog 7 #[.slice p n c, .int .i64 a, .slice p2 n2 c2] w (RB true w) := by
  have FEW := Lib.hid (fun W (hW : Below w.heap.size w W) => few_any _ ns W (H.out.below hW))
  rw [FW.out] at FEW
  have FEB := Lib.hid (fun W (hW : Below w.heap.size w W) => few_any _ bs W (HB.out.below hW))
  rw [FB.out] at FEB
  go_enter Try.func7, Try.ntmps7
  go_wp2_with fail
  refine (awake_any _).mono ?_
  rintro e w1 ⟨rfl, b1⟩
  have B1 := Lib.hid b1
  clear b1
  go_wp2_with fail
  refine (FEW.out _ B1.out).mono ?_
  rintro e w2 ⟨rfl, rfl⟩
  go_wp2_with fail
  refine (FEB.out _ B1.out).mono ?_
  rintro e w3 ⟨rfl, rfl⟩
  go_wp2_with fail
  refine (awake_any _).mono ?_
  rintro e w4 ⟨rfl, b4⟩
  have B4 := Lib.hid (B1.out.trans (b4.mono B1.out.size))
  clear b4
  go_wp2_with fail
  go_ret
  exact ⟨rfl, B4.out⟩
set_option maxRecDepth 100000 in
set_option maxHeartbeats 8000000 in
theorem puts_c1 (p p2 : Option Addr) (n c n2 c2 : Nat) (ns bs : List Nd) (a : Int) (w : World) (H : Hid (NodesAt w (.slice p n c) ns)) (HB : Hid (NodesAt w (.slice p2 n2 c2) bs)) (FW : Hid (fewB ns = true)) (FB : Hid (fewB bs = true)) (h : a < 0) :
    Calls Try.prog 7 #[.slice p n c, .int .i64 a, .slice p2 n2 c2] w (RB true w) := by
  have FEW := Lib.hid (fun W (hW : Below w.heap.size w W) => few_any _ ns W (H.out.below hW))
  rw [FW.out] at FEW
  have FEB := Lib.hid (fun W (hW : Below w.heap.size w W) => few_any _ bs W (HB.out.below hW))
  rw [FB.out] at FEB
  have ga : decide (a < 0) = true := by simpa using h
  clear h
  go_enter Try.func7, Try.ntmps7
  go_wp2_with fail
  refine (awake_any _).mono ?_
  rintro e w1 ⟨rfl, b1⟩
  have B1 := Lib.hid b1
  clear b1
  go_wp2_with fail
  refine (FEW.out _ B1.out).mono ?_
  rintro e w2 ⟨rfl, rfl⟩
  go_wp2_with fail
  refine (FEB.out _ B1.out).mono ?_
  rintro e w3 ⟨rfl, rfl⟩
  go_wp2_with fail
  refine (awake_any _).mono ?_
  rintro e w4 ⟨rfl, b4⟩
  have B4 := Lib.hid (B1.out.trans (b4.mono B1.out.size))
  clear b4
  go_wp2_with fail
  go_ret
  exact ⟨rfl, B4.out⟩
set_option maxRecDepth 100000 in
set_option maxHeartbeats 8000000 in
theorem puts_c2 (p p2 : Option Addr) (n c n2 c2 : Nat) (ns bs : List Nd) (a : Nat) (w : World) (H : Hid (NodesAt w (.slice p n c) ns)) (HB : Hid (NodesAt w (.slice p2 n2 c2) bs)) (FW : Hid (fewB ns = true)) (FB : Hid (fewB bs = true)) (h : n ≤ a) :
    Calls Try.prog 7 #[.slice p n c, .int .i64 (a : Int), .slice p2 n2 c2] w (RB true w) := by
  have FEW := Lib.hid (fun W (hW : Below w.heap.size w W) => few_any _ ns W (H.out.below hW))
  rw [FW.out] at FEW
  have FEB := Lib.hid (fun W (hW : Below w.heap.size w W) => few_any _ bs W (HB.out.below hW))
  rw [FB.out] at FEB
  have ga : decide ((a : Int) < 0) = false := by simp
  have gb : decide ((n : Int) ≤ (a : Int)) = true := by simp; omega
  have gc : decide (n ≤ a) = true := by simp; omega
  go_enter Try.func7, Try.ntmps7
  go_wp2_with fail
  refine (awake_any _).mono ?_
  rintro e w1 ⟨rfl, b1⟩
  have B1 := Lib.hid b1
  clear b1
  go_wp2_with fail
  refine (FEW.out _ B1.out).mono ?_
  rintro e w2 ⟨rfl, rfl⟩
  go_wp2_with fail
  refine (FEB.out _ B1.out).mono ?_
  rintro e w3 ⟨rfl, rfl⟩
  go_wp2_with fail
  refine (awake_any _).mono ?_
  rintro e w4 ⟨rfl, b4⟩
  have B4 := Lib.hid (B1.out.trans (b4.mono B1.out.size))
  clear b4
  go_wp2_with fail
  go_ret
  exact ⟨rfl, B4.out⟩
set_option maxRecDepth 100000 in
set_option maxHeartbeats 8000000 in
theorem puts_d (p p2 : Option Addr) (n c n2 c2 : Nat) (ns bs : List Nd) (a : Nat) (x : Int) (w : World) (H : Hid (NodesAt w (.slice p n c) ns)) (HB : Hid (NodesAt w (.slice p2 n2 c2) bs)) (FW : Hid (fewB ns = true)) (FB : Hid (fewB bs = true)) (ha : a < n) (CX : Hid (CheckIs ns 0 x)) (h0 : ¬ x = 0) :
    Calls Try.prog 7 #[.slice p n c, .int .i64 (a : Int), .slice p2 n2 c2] w (RB true w) := by
  have FEW := Lib.hid (fun W (hW : Below w.heap.size w W) => few_any _ ns W (H.out.below hW))
  rw [FW.out] at FEW
  have FEB := Lib.hid (fun W (hW : Below w.heap.size w W) => few_any _ bs W (HB.out.below hW))
  rw [FB.out] at FEB
  have ga : decide ((a : Int) < 0) = false := by simp
  have gb : decide ((n : Int) ≤ (a : Int)) = false := by simp; omega
  have gc : decide (n ≤ a) = false := by simp; omega
  have HN : Hid (ns.length ≤ 1000000) := Lib.hid (by have := (few_yes FW.out).1; omega)
  have CHK := Lib.hid (fun v W (h : NodesAt W v ns) => Check_any v ns x W h (by have := (few_yes FW.out).1; omega) (few_yes FW.out).2 CX.out)
  have g0 : (x != 0) = true := by simpa using h0
  clear h0
  go_enter Try.func7, Try.ntmps7
  go_wp2_with fail
  refine (awake_any _).mono ?_
  rintro e w1 ⟨rfl, b1⟩
  have B1 := Lib.hid b1
  clear b1
  go_wp2_with fail
  refine (FEW.out _ B1.out).mono ?_
  rintro e w2 ⟨rfl, rfl⟩
  go_wp2_with fail
  refine (FEB.out _ B1.out).mono ?_
  rintro e w3 ⟨rfl, rfl⟩
  go_wp2_with fail
  refine (own_bel _ ns w _ H.out HN.out B1.out).mono ?_
  rintro e w4 ⟨v4, rfl, h4, b4⟩
  have B4 := Lib.hid (B1.out.trans (b4.mono B1.out.size))
  clear b4
  obtain ⟨p4, c4, rfl⟩ := nodes_form h4
  have H4 := Lib.hid h4
  clear h4
  go_wp2_with fail
  refine (CHK.out _ _ H4.out).mono ?_
  rintro e w5 ⟨rfl, b5⟩
  have B5 := Lib.hid (B4.out.trans (b5.mono B4.out.size))
  clear b5
  go_wp2_with fail
  refine (awake_any _).mono ?_
  rintro e w6 ⟨rfl, b6⟩
  have B6 := Lib.hid (B5.out.trans (b6.mono B5.out.size))
  clear b6
  go_wp2_with fail
  go_ret
  exact ⟨rfl, B6.out⟩
set_option maxRecDepth 100000 in
set_option maxHeartbeats 8000000 in
theorem puts_e (p p2 : Option Addr) (n c n2 c2 : Nat) (ns bs : List Nd) (a : Nat) (x y : Int) (w : World) (H : Hid (NodesAt w (.slice p n c) ns)) (HB : Hid (NodesAt w (.slice p2 n2 c2) bs)) (FW : Hid (fewB ns = true)) (FB : Hid (fewB bs = true)) (ha : a < n) (CX : Hid (CheckIs ns 0 x)) (h0 : x = 0) (CY : Hid (CheckIs bs 0 y)) (h1 : ¬ y = 0) :
    Calls Try.prog 7 #[.slice p n c, .int .i64 (a : Int), .slice p2 n2 c2] w (RB true w) := by
  have FEW := Lib.hid (fun W (hW : Below w.heap.size w W) => few_any _ ns W (H.out.below hW))
  rw [FW.out] at FEW
  have FEB := Lib.hid (fun W (hW : Below w.heap.size w W) => few_any _ bs W (HB.out.below hW))
  rw [FB.out] at FEB
  have ga : decide ((a : Int) < 0) = false := by simp
  have gb : decide ((n : Int) ≤ (a : Int)) = false := by simp; omega
  have gc : decide (n ≤ a) = false := by simp; omega
  have HN : Hid (ns.length ≤ 1000000) := Lib.hid (by have := (few_yes FW.out).1; omega)
  have CHK := Lib.hid (fun v W (h : NodesAt W v ns) => Check_any v ns x W h (by have := (few_yes FW.out).1; omega) (few_yes FW.out).2 CX.out)
  have HN2 : Hid (bs.length ≤ 1000000) := Lib.hid (by have := (few_yes FB.out).1; omega)
  have CHB := Lib.hid (fun v W (h : NodesAt W v bs) => Check_any v bs y W h (by have := (few_yes FB.out).1; omega) (few_yes FB.out).2 CY.out)
  subst h0
  have g0 : (y != 0) = true := by simpa using h1
  clear h1
  go_enter Try.func7, Try.ntmps7
  go_wp2_with fail
  refine (awake_any _).mono ?_
  rintro e w1 ⟨rfl, b1⟩
  have B1 := Lib.hid b1
  clear b1
  go_wp2_with fail
  refine (FEW.out _ B1.out).mono ?_
  rintro e w2 ⟨rfl, rfl⟩
  go_wp2_with fail
  refine (FEB.out _ B1.out).mono ?_
  rintro e w3 ⟨rfl, rfl⟩
  go_wp2_with fail
  refine (own_bel _ ns w _ H.out HN.out B1.out).mono ?_
  rintro e w4 ⟨v4, rfl, h4, b4⟩
  have B4 := Lib.hid (B1.out.trans (b4.mono B1.out.size))
  clear b4
  obtain ⟨p4, c4, rfl⟩ := nodes_form h4
  have H4 := Lib.hid h4
  clear h4
  go_wp2_with fail
  refine (CHK.out _ _ H4.out).mono ?_
  rintro e w5 ⟨rfl, b5⟩
  have B5 := Lib.hid (B4.out.trans (b5.mono B4.out.size))
  clear b5
  go_wp2_with fail
  refine (own_bel _ bs w _ HB.out HN2.out B5.out).mono ?_
  rintro e w6 ⟨v6, rfl, h6, b6⟩
  have B6 := Lib.hid (B5.out.trans (b6.mono B5.out.size))
  clear b6
  obtain ⟨p6, c6, rfl⟩ := nodes_form h6
  have H6 := Lib.hid h6
  clear h6
  go_wp2_with fail
  refine (CHB.out _ _ H6.out).mono ?_
  rintro e w7 ⟨rfl, b7⟩
  have B7 := Lib.hid (B6.out.trans (b7.mono B6.out.size))
  clear b7
  go_wp2_with fail
  refine (awake_any _).mono ?_
  rintro e w8 ⟨rfl, b8⟩
  have B8 := Lib.hid (B7.out.trans (b8.mono B7.out.size))
  clear b8
  go_wp2_with fail
  go_ret
  exact ⟨rfl, B8.out⟩
set_option maxRecDepth 100000 in
set_option maxHeartbeats 8000000 in
theorem puts_f (p p2 : Option Addr) (n c n2 c2 : Nat) (ns bs : List Nd) (a d1 d2 : Nat) (x y : Int) (w : World) (H : Hid (NodesAt w (.slice p n c) ns)) (HB : Hid (NodesAt w (.slice p2 n2 c2) bs)) (FW : Hid (fewB ns = true)) (FB : Hid (fewB bs = true)) (ha : a < n) (CX : Hid (CheckIs ns 0 x)) (h0 : x = 0) (CY : Hid (CheckIs bs 0 y)) (h1 : y = 0) (D1 : Hid (deepI (kk ns) = d1)) (D2 : Hid (deepI (kk bs) = d2)) (hd1 : d1 ≤ 100) (hd2 : d2 ≤ 100) (hd : ¬ d1 + d2 ≤ 90) :
    Calls Try.prog 7 #[.slice p n c, .int .i64 (a : Int), .slice p2 n2 c2] w (RB true w) := by
  have FEW := Lib.hid (fun W (hW : Below w.heap.size w W) => few_any _ ns W (H.out.below hW))
  rw [FW.out] at FEW
  have FEB := Lib.hid (fun W (hW : Below w.heap.size w W) => few_any _ bs W (HB.out.below hW))
  rw [FB.out] at FEB
  have ga : decide ((a : Int) < 0) = false := by simp
  have gb : decide ((n : Int) ≤ (a : Int)) = false := by simp; omega
  have gc : decide (n ≤ a) = false := by simp; omega
  have HN : Hid (ns.length ≤ 1000000) := Lib.hid (by have := (few_yes FW.out).1; omega)
  have CHK := Lib.hid (fun v W (h : NodesAt W v ns) => Check_any v ns x W h (by have := (few_yes FW.out).1; omega) (few_yes FW.out).2 CX.out)
  have HN2 : Hid (bs.length ≤ 1000000) := Lib.hid (by have := (few_yes FB.out).1; omega)
  have CHB := Lib.hid (fun v W (h : NodesAt W v bs) => Check_any v bs y W h (by have := (few_yes FB.out).1; omega) (few_yes FB.out).2 CY.out)
  have DP := Lib.hid (fun v W (h : NodesAt W v ns) => deep_any v ns W h HN.out)
  have DB := Lib.hid (fun v W (h : NodesAt W v bs) => deep_any v bs W h HN2.out)
  rw [D1.out] at DP
  rw [D2.out] at DB
  subst h0
  subst h1
  have gd : decide ((90 : Int) < (d1 : Int) + (d2 : Int)) = true := by simp; omega
  have gd2 : decide (90 < d1 + d2) = true := by simp; omega
  go_enter Try.func7, Try.ntmps7
  go_wp2_with fail
  refine (awake_any _).mono ?_
  rintro e w1 ⟨rfl, b1⟩
  have B1 := Lib.hid b1
  clear b1
  go_wp2_with fail
  refine (FEW.out _ B1.out).mono ?_
  rintro e w2 ⟨rfl, rfl⟩
  go_wp2_with fail
  refine (FEB.out _ B1.out).mono ?_
  rintro e w3 ⟨rfl, rfl⟩
  go_wp2_with fail
  refine (own_bel _ ns w _ H.out HN.out B1.out).mono ?_
  rintro e w4 ⟨v4, rfl, h4, b4⟩
  have B4 := Lib.hid (B1.out.trans (b4.mono B1.out.size))
  clear b4
  obtain ⟨p4, c4, rfl⟩ := nodes_form h4
  have H4 := Lib.hid h4
  clear h4
  go_wp2_with fail
  refine (CHK.out _ _ H4.out).mono ?_
  rintro e w5 ⟨rfl, b5⟩
  have B5 := Lib.hid (B4.out.trans (b5.mono B4.out.size))
  clear b5
  go_wp2_with fail
  refine (own_bel _ bs w _ HB.out HN2.out B5.out).mono ?_
  rintro e w6 ⟨v6, rfl, h6, b6⟩
  have B6 := Lib.hid (B5.out.trans (b6.mono B5.out.size))
  clear b6
  obtain ⟨p6, c6, rfl⟩ := nodes_form h6
  have H6 := Lib.hid h6
  clear h6
  go_wp2_with fail
  refine (CHB.out _ _ H6.out).mono ?_
  rintro e w7 ⟨rfl, b7⟩
  have B7 := Lib.hid (B6.out.trans (b7.mono B6.out.size))
  clear b7
  go_wp2_with fail
  refine (own_bel _ ns w _ H.out HN.out B7.out).mono ?_
  rintro e w8 ⟨v8, rfl, h8, b8⟩
  have B8 := Lib.hid (B7.out.trans (b8.mono B7.out.size))
  clear b8
  obtain ⟨p8, c8, rfl⟩ := nodes_form h8
  have H8 := Lib.hid h8
  clear h8
  go_wp2_with fail
  refine (DP.out _ _ H8.out).mono ?_
  rintro e w9 ⟨_, rfl, rfl, b9⟩
  have B9 := Lib.hid (B8.out.trans (b9.mono B8.out.size))
  clear b9
  go_wp2_with fail
  refine (own_bel _ bs w _ HB.out HN2.out B9.out).mono ?_
  rintro e w10 ⟨v10, rfl, h10, b10⟩
  have B10 := Lib.hid (B9.out.trans (b10.mono B9.out.size))
  clear b10
  obtain ⟨p10, c10, rfl⟩ := nodes_form h10
  have H10 := Lib.hid h10
  clear h10
  go_wp2_with fail
  refine (DB.out _ _ H10.out).mono ?_
  rintro e w11 ⟨_, rfl, rfl, b11⟩
  have B11 := Lib.hid (B10.out.trans (b11.mono B10.out.size))
  clear b11
  go_wp2_with fail
  refine (awake_any _).mono ?_
  rintro e w12 ⟨rfl, b12⟩
  have B12 := Lib.hid (B11.out.trans (b12.mono B11.out.size))
  clear b12
  go_wp2_with fail
  go_ret
  exact ⟨rfl, B12.out⟩
set_option maxRecDepth 100000 in
set_option maxHeartbeats 8000000 in
theorem puts_g (b off b2 off2 : Nat) (n c n2 c2 : Nat) (ns bs : List Nd) (a d1 d2 : Nat) (x y : Int) (w : World) (H : Hid (NodesAt w (.slice (some ⟨b, off, none⟩) n c) ns)) (HB : Hid (NodesAt w (.slice (some ⟨b2, off2, none⟩) n2 c2) bs)) (FW : Hid (fewB ns = true)) (FB : Hid (fewB bs = true)) (ha : a < n) (CX : Hid (CheckIs ns 0 x)) (h0 : x = 0) (CY : Hid (CheckIs bs 0 y)) (h1 : y = 0) (D1 : Hid (deepI (kk ns) = d1)) (D2 : Hid (deepI (kk bs) = d2)) (hd1 : d1 ≤ 100) (hd2 : d2 ≤ 100) (hd : d1 + d2 ≤ 90) (HC : Hid (b < w.heap.size ∧ CellsIn w b off (nodeCells ns) ∧ ns.length = n)) (PT : Hid ((decide (21 ≤ (ns.getD a default).kind) && decide ((ns.getD a default).kind ≤ 24)) = true)) :
    Calls Try.prog 7 #[.slice (some ⟨b, off, none⟩) n c, .int .i64 (a : Int), .slice (some ⟨b2, off2, none⟩) n2 c2] w (RB true w) := by
  have FEW := Lib.hid (fun W (hW : Below w.heap.size w W) => few_any _ ns W (H.out.below hW))
  rw [FW.out] at FEW
  have FEB := Lib.hid (fun W (hW : Below w.heap.size w W) => few_any _ bs W (HB.out.below hW))
  rw [FB.out] at FEB
  have ga : decide ((a : Int) < 0) = false := by simp
  have gb : decide ((n : Int) ≤ (a : Int)) = false := by simp; omega
  have gc : decide (n ≤ a) = false := by simp; omega
  have HN : Hid (ns.length ≤ 1000000) := Lib.hid (by have := (few_yes FW.out).1; omega)
  have CHK := Lib.hid (fun v W (h : NodesAt W v ns) => Check_any v ns x W h (by have := (few_yes FW.out).1; omega) (few_yes FW.out).2 CX.out)
  have HN2 : Hid (bs.length ≤ 1000000) := Lib.hid (by have := (few_yes FB.out).1; omega)
  have CHB := Lib.hid (fun v W (h : NodesAt W v bs) => Check_any v bs y W h (by have := (few_yes FB.out).1; omega) (few_yes FB.out).2 CY.out)
  have DP := Lib.hid (fun v W (h : NodesAt W v ns) => deep_any v ns W h HN.out)
  have DB := Lib.hid (fun v W (h : NodesAt W v bs) => deep_any v bs W h HN2.out)
  rw [D1.out] at DP
  rw [D2.out] at DB
  subst h0
  subst h1
  have gd : decide ((90 : Int) < (d1 : Int) + (d2 : Int)) = false := by simp; omega
  have gd2 : decide (90 < d1 + d2) = false := by simp; omega
  have KC : Hid (∀ W, Below w.heap.size w W → ∀ i, i < n → W.cell? ⟨b, off + i * 4, none⟩ = some (.int .i64 (ns.getD i default).kind)) := Lib.hid (fun W hW i hi => kind_cell HC.out.2.1 HC.out.1 hW i (by rw [HC.out.2.2]; exact hi))
  have KA := Lib.hid (fun W hW => KC.out W hW a ha)
  have IP := Lib.hid (fun W => isPat_any (ns.getD a default).kind W)
  rw [PT.out] at IP
  obtain ⟨ka, hka⟩ : ∃ ka, ka = (ns.getD a default).kind := ⟨_, rfl⟩
  rw [← hka] at KA IP
  clear hka
  go_enter Try.func7, Try.ntmps7
  go_wp2_with fail
  refine (awake_any _).mono ?_
  rintro e w1 ⟨rfl, b1⟩
  have B1 := Lib.hid b1
  clear b1
  go_wp2_with fail
  refine (FEW.out _ B1.out).mono ?_
  rintro e w2 ⟨rfl, rfl⟩
  go_wp2_with fail
  refine (FEB.out _ B1.out).mono ?_
  rintro e w3 ⟨rfl, rfl⟩
  go_wp2_with fail
  refine (own_bel _ ns w _ H.out HN.out B1.out).mono ?_
  rintro e w4 ⟨v4, rfl, h4, b4⟩
  have B4 := Lib.hid (B1.out.trans (b4.mono B1.out.size))
  clear b4
  obtain ⟨p4, c4, rfl⟩ := nodes_form h4
  have H4 := Lib.hid h4
  clear h4
  go_wp2_with fail
  refine (CHK.out _ _ H4.out).mono ?_
  rintro e w5 ⟨rfl, b5⟩
  have B5 := Lib.hid (B4.out.trans (b5.mono B4.out.size))
  clear b5
  go_wp2_with fail
  refine (own_bel _ bs w _ HB.out HN2.out B5.out).mono ?_
  rintro e w6 ⟨v6, rfl, h6, b6⟩
  have B6 := Lib.hid (B5.out.trans (b6.mono B5.out.size))
  clear b6
  obtain ⟨p6, c6, rfl⟩ := nodes_form h6
  have H6 := Lib.hid h6
  clear h6
  go_wp2_with fail
  refine (CHB.out _ _ H6.out).mono ?_
  rintro e w7 ⟨rfl, b7⟩
  have B7 := Lib.hid (B6.out.trans (b7.mono B6.out.size))
  clear b7
  go_wp2_with fail
  refine (own_bel _ ns w _ H.out HN.out B7.out).mono ?_
  rintro e w8 ⟨v8, rfl, h8, b8⟩
  have B8 := Lib.hid (B7.out.trans (b8.mono B7.out.size))
  clear b8
  obtain ⟨p8, c8, rfl⟩ := nodes_form h8
  have H8 := Lib.hid h8
  clear h8
  go_wp2_with fail
  refine (DP.out _ _ H8.out).mono ?_
  rintro e w9 ⟨_, rfl, rfl, b9⟩
  have B9 := Lib.hid (B8.out.trans (b9.mono B8.out.size))
  clear b9
  go_wp2_with fail
  refine (own_bel _ bs w _ HB.out HN2.out B9.out).mono ?_
  rintro e w10 ⟨v10, rfl, h10, b10⟩
  have B10 := Lib.hid (B9.out.trans (b10.mono B9.out.size))
  clear b10
  obtain ⟨p10, c10, rfl⟩ := nodes_form h10
  have H10 := Lib.hid h10
  clear h10
  go_wp2_with fail
  refine (DB.out _ _ H10.out).mono ?_
  rintro e w11 ⟨_, rfl, rfl, b11⟩
  have B11 := Lib.hid (B10.out.trans (b11.mono B10.out.size))
  clear b11
  have cA := KA.out _ B11.out
  go_wp2_with fail
  refine (IP.out _).mono ?_
  rintro e w12 ⟨rfl, rfl⟩
  go_wp2_with fail
  go_ret
  exact ⟨rfl, B11.out⟩
set_option maxRecDepth 100000 in
set_option maxHeartbeats 8000000 in
theorem puts_h (b off b2 off2 : Nat) (n c n2 c2 : Nat) (ns bs : List Nd) (d1 d2 : Nat) (x y z mk : Int) (ps : List Nd) (w : World) (H : Hid (NodesAt w (.slice (some ⟨b, off, none⟩) n c) ns)) (HB : Hid (NodesAt w (.slice (some ⟨b2, off2, none⟩) n2 c2) bs)) (FW : Hid (fewB ns = true)) (FB : Hid (fewB bs = true)) (ha : 0 < n) (CX : Hid (CheckIs ns 0 x)) (h0 : x = 0) (CY : Hid (CheckIs bs 0 y)) (h1 : y = 0) (D1 : Hid (deepI (kk ns) = d1)) (D2 : Hid (deepI (kk bs) = d2)) (hd1 : d1 ≤ 100) (hd2 : d2 ≤ 100) (hd : d1 + d2 ≤ 90) (HC : Hid (b < w.heap.size ∧ CellsIn w b off (nodeCells ns) ∧ ns.length = n)) (PT : Hid ((decide (21 ≤ (ns.getD 0 default).kind) && decide ((ns.getD 0 default).kind ≤ 24)) = false)) (PL : Hid (putL ns ((0 : Nat) : Int) bs = ps)) (PE : Hid (putE ns ((0 : Nat) : Int) bs = false)) (PS : Hid (ps.length ≤ 100000 ∧ Tx ps)) (CZ : Hid (CheckIs ps 0 z)) (HC2 : Hid (b2 < w.heap.size ∧ CellsIn w b2 off2 (nodeCells bs) ∧ 0 < bs.length ∧ (bs.getD 0 default).kind = mk)) (hn2 : 0 < n2) (hz : z = 0) :
    Calls Try.prog 7 #[.slice (some ⟨b, off, none⟩) n c, .int .i64 ((0 : Nat) : Int), .slice (some ⟨b2, off2, none⟩) n2 c2] w (RB true w) := by
  have FEW := Lib.hid (fun W (hW : Below w.heap.size w W) => few_any _ ns W (H.out.below hW))
  rw [FW.out] at FEW
  have FEB := Lib.hid (fun W (hW : Below w.heap.size w W) => few_any _ bs W (HB.out.below hW))
  rw [FB.out] at FEB
  have ga : decide (((0 : Nat) : Int) < 0) = false := by simp
  have gb : decide ((n : Int) ≤ ((0 : Nat) : Int)) = false := by simp; omega
  have gc : decide (n ≤ 0) = false := by simp; omega
  have HN : Hid (ns.length ≤ 1000000) := Lib.hid (by have := (few_yes FW.out).1; omega)
  have CHK := Lib.hid (fun v W (h : NodesAt W v ns) => Check_any v ns x W h (by have := (few_yes FW.out).1; omega) (few_yes FW.out).2 CX.out)
  have HN2 : Hid (bs.length ≤ 1000000) := Lib.hid (by have := (few_yes FB.out).1; omega)
  have CHB := Lib.hid (fun v W (h : NodesAt W v bs) => Check_any v bs y W h (by have := (few_yes FB.out).1; omega) (few_yes FB.out).2 CY.out)
  have DP := Lib.hid (fun v W (h : NodesAt W v ns) => deep_any v ns W h HN.out)
  have DB := Lib.hid (fun v W (h : NodesAt W v bs) => deep_any v bs W h HN2.out)
  rw [D1.out] at DP
  rw [D2.out] at DB
  subst h0
  subst h1
  have gd : decide ((90 : Int) < (d1 : Int) + (d2 : Int)) = false := by simp; omega
  have gd2 : decide (90 < d1 + d2) = false := by simp; omega
  have KC : Hid (∀ W, Below w.heap.size w W → ∀ i, i < n → W.cell? ⟨b, off + i * 4, none⟩ = some (.int .i64 (ns.getD i default).kind)) := Lib.hid (fun W hW i hi => kind_cell HC.out.2.1 HC.out.1 hW i (by rw [HC.out.2.2]; exact hi))
  have KA := Lib.hid (fun W hW => KC.out W hW 0 ha)
  have IP := Lib.hid (fun W => isPat_any (ns.getD 0 default).kind W)
  rw [PT.out] at IP
  obtain ⟨ka, hka⟩ : ∃ ka, ka = (ns.getD 0 default).kind := ⟨_, rfl⟩
  rw [← hka] at KA IP
  clear hka
  have PUT := Lib.hid (fun v v2 W (h : NodesAt W v ns) (h2 : NodesAt W v2 bs) => put_any v v2 ns bs ((0 : Nat) : Int) W h h2 (by have := (few_yes FW.out).1; omega) (by have := (few_yes FB.out).1; omega))
  rw [PL.out, PE.out] at PUT
  simp only [Bool.false_eq_true, if_false] at PUT
  have CP := Lib.hid (fun v W (h : NodesAt W v ps) => Check_any v ps z W h PS.out.1 PS.out.2 CZ.out)
  have KB : Hid (∀ W, Below w.heap.size w W → W.cell? ⟨b2, off2, none⟩ = some (.int .i64 mk)) := Lib.hid (fun W hW => by
    have := kind_cell HC2.out.2.1 HC2.out.1 hW 0 HC2.out.2.2.1
    rw [HC2.out.2.2.2] at this
    simpa using this)
  subst hz
  simp only [Nat.zero_mul, Nat.add_zero] at KA
  go_enter Try.func7, Try.ntmps7
  go_wp2_with fail
  refine (awake_any _).mono ?_
  rintro e w1 ⟨rfl, b1⟩
  have B1 := Lib.hid b1
  clear b1
  go_wp2_with fail
  refine (FEW.out _ B1.out).mono ?_
  rintro e w2 ⟨rfl, rfl⟩
  go_wp2_with fail
  refine (FEB.out _ B1.out).mono ?_
  rintro e w3 ⟨rfl, rfl⟩
  go_wp2_with fail
  refine (own_bel _ ns w _ H.out HN.out B1.out).mono ?_
  rintro e w4 ⟨v4, rfl, h4, b4⟩
  have B4 := Lib.hid (B1.out.trans (b4.mono B1.out.size))
  clear b4
  obtain ⟨p4, c4, rfl⟩ := nodes_form h4
  have H4 := Lib.hid h4
  clear h4
  go_wp2_with fail
  refine (CHK.out _ _ H4.out).mono ?_
  rintro e w5 ⟨rfl, b5⟩
  have B5 := Lib.hid (B4.out.trans (b5.mono B4.out.size))
  clear b5
  go_wp2_with fail
  refine (own_bel _ bs w _ HB.out HN2.out B5.out).mono ?_
  rintro e w6 ⟨v6, rfl, h6, b6⟩
  have B6 := Lib.hid (B5.out.trans (b6.mono B5.out.size))
  clear b6
  obtain ⟨p6, c6, rfl⟩ := nodes_form h6
  have H6 := Lib.hid h6
  clear h6
  go_wp2_with fail
  refine (CHB.out _ _ H6.out).mono ?_
  rintro e w7 ⟨rfl, b7⟩
  have B7 := Lib.hid (B6.out.trans (b7.mono B6.out.size))
  clear b7
  go_wp2_with fail
  refine (own_bel _ ns w _ H.out HN.out B7.out).mono ?_
  rintro e w8 ⟨v8, rfl, h8, b8⟩
  have B8 := Lib.hid (B7.out.trans (b8.mono B7.out.size))
  clear b8
  obtain ⟨p8, c8, rfl⟩ := nodes_form h8
  have H8 := Lib.hid h8
  clear h8
  go_wp2_with fail
  refine (DP.out _ _ H8.out).mono ?_
  rintro e w9 ⟨_, rfl, rfl, b9⟩
  have B9 := Lib.hid (B8.out.trans (b9.mono B8.out.size))
  clear b9
  go_wp2_with fail
  refine (own_bel _ bs w _ HB.out HN2.out B9.out).mono ?_
  rintro e w10 ⟨v10, rfl, h10, b10⟩
  have B10 := Lib.hid (B9.out.trans (b10.mono B9.out.size))
  clear b10
  obtain ⟨p10, c10, rfl⟩ := nodes_form h10
  have H10 := Lib.hid h10
  clear h10
  go_wp2_with fail
  refine (DB.out _ _ H10.out).mono ?_
  rintro e w11 ⟨_, rfl, rfl, b11⟩
  have B11 := Lib.hid (B10.out.trans (b11.mono B10.out.size))
  clear b11
  have cA := KA.out _ B11.out
  go_wp2_with fail
  refine (IP.out _).mono ?_
  rintro e w12 ⟨rfl, rfl⟩
  go_wp2_with fail
  refine (own_bel _ ns w _ H.out HN.out B11.out).mono ?_
  rintro e w13 ⟨v13, rfl, h13, b13⟩
  have B13 := Lib.hid (B11.out.trans (b13.mono B11.out.size))
  clear b13
  obtain ⟨p13, c13, rfl⟩ := nodes_form h13
  have H13 := Lib.hid h13
  clear h13
  go_wp2_with fail
  refine (up_zero _ ns _ H13.out HN.out).mono ?_
  rintro e w14 ⟨rfl, rfl⟩
  go_wp2_with fail
  refine (own_bel _ ns w _ H.out HN.out B13.out).mono ?_
  rintro e w15 ⟨v15, rfl, h15, b15⟩
  have B15 := Lib.hid (B13.out.trans (b15.mono B13.out.size))
  clear b15
  obtain ⟨p15, c15, rfl⟩ := nodes_form h15
  have H15 := Lib.hid h15
  clear h15
  go_wp2_with fail
  refine (own_bel _ bs w _ HB.out HN2.out B15.out).mono ?_
  rintro e w16 ⟨v16, rfl, h16, b16⟩
  have H15_16 := Lib.hid (H15.out.below b16)
  have B16 := Lib.hid (B15.out.trans (b16.mono B15.out.size))
  clear b16
  obtain ⟨p16, c16, rfl⟩ := nodes_form h16
  have H16 := Lib.hid h16
  clear h16
  go_wp2_with fail
  refine (PUT.out _ _ _ H15_16.out H16.out).mono ?_
  rintro e w17 ⟨v17, rfl, h17, b17⟩
  have B17 := Lib.hid (B16.out.trans (b17.mono B16.out.size))
  clear b17
  obtain ⟨p17, c17, rfl⟩ := nodes_form h17
  have H17 := Lib.hid h17
  clear h17
  have cB := KB.out _ B17.out
  go_wp2_with fail
  refine (CP.out _ _ H17.out).mono ?_
  rintro e w18 ⟨rfl, b18⟩
  have B18 := Lib.hid (B17.out.trans (b18.mono B17.out.size))
  clear b18
  go_wp2_with fail
  go_ret
  exact ⟨rfl, B18.out⟩
set_option maxRecDepth 100000 in
set_option maxHeartbeats 8000000 in
theorem puts_i (b off b2 off2 : Nat) (n c n2 c2 : Nat) (ns bs : List Nd) (a q d1 d2 : Nat) (x y z mk : Int) (ps : List Nd) (w : World) (H : Hid (NodesAt w (.slice (some ⟨b, off, none⟩) n c) ns)) (HB : Hid (NodesAt w (.slice (some ⟨b2, off2, none⟩) n2 c2) bs)) (FW : Hid (fewB ns = true)) (FB : Hid (fewB bs = true)) (ha : a < n) (CX : Hid (CheckIs ns 0 x)) (h0 : x = 0) (CY : Hid (CheckIs bs 0 y)) (h1 : y = 0) (D1 : Hid (deepI (kk ns) = d1)) (D2 : Hid (deepI (kk bs) = d2)) (hd1 : d1 ≤ 100) (hd2 : d2 ≤ 100) (hd : d1 + d2 ≤ 90) (HC : Hid (b < w.heap.size ∧ CellsIn w b off (nodeCells ns) ∧ ns.length = n)) (PT : Hid ((decide (21 ≤ (ns.getD a default).kind) && decide ((ns.getD a default).kind ≤ 24)) = false)) (PL : Hid (putL ns a bs = ps)) (PE : Hid (putE ns a bs = false)) (PS : Hid (ps.length ≤ 100000 ∧ Tx ps)) (CZ : Hid (CheckIs ps 0 z)) (HC2 : Hid (b2 < w.heap.size ∧ CellsIn w b2 off2 (nodeCells bs) ∧ 0 < bs.length ∧ (bs.getD 0 default).kind = mk)) (hn2 : 0 < n2) (UP : Hid (∀ v W, NodesAt W v ns → Calls Try.prog 28 #[v, .int .i64 (a : Int)] W (fun e w' => e = .returned (.int .i64 (q : Int)) ∧ W = w'))) (hq : q < n) (kq : Int) (KQ : Hid ((ns.getD q default).kind = kq)) (hk : ¬ kq = 8) (hz : z = 0) :
    Calls Try.prog 7 #[.slice (some ⟨b, off, none⟩) n c, .int .i64 (a : Int), .slice (some ⟨b2, off2, none⟩) n2 c2] w (RB true w) := by
  have FEW := Lib.hid (fun W (hW : Below w.heap.size w W) => few_any _ ns W (H.out.below hW))
  rw [FW.out] at FEW
  have FEB := Lib.hid (fun W (hW : Below w.heap.size w W) => few_any _ bs W (HB.out.below hW))
  rw [FB.out] at FEB
  have ga : decide ((a : Int) < 0) = false := by simp
  have gb : decide ((n : Int) ≤ (a : Int)) = false := by simp; omega
  have gc : decide (n ≤ a) = false := by simp; omega
  have HN : Hid (ns.length ≤ 1000000) := Lib.hid (by have := (few_yes FW.out).1; omega)
  have CHK := Lib.hid (fun v W (h : NodesAt W v ns) => Check_any v ns x W h (by have := (few_yes FW.out).1; omega) (few_yes FW.out).2 CX.out)
  have HN2 : Hid (bs.length ≤ 1000000) := Lib.hid (by have := (few_yes FB.out).1; omega)
  have CHB := Lib.hid (fun v W (h : NodesAt W v bs) => Check_any v bs y W h (by have := (few_yes FB.out).1; omega) (few_yes FB.out).2 CY.out)
  have DP := Lib.hid (fun v W (h : NodesAt W v ns) => deep_any v ns W h HN.out)
  have DB := Lib.hid (fun v W (h : NodesAt W v bs) => deep_any v bs W h HN2.out)
  rw [D1.out] at DP
  rw [D2.out] at DB
  subst h0
  subst h1
  have gd : decide ((90 : Int) < (d1 : Int) + (d2 : Int)) = false := by simp; omega
  have gd2 : decide (90 < d1 + d2) = false := by simp; omega
  have KC : Hid (∀ W, Below w.heap.size w W → ∀ i, i < n → W.cell? ⟨b, off + i * 4, none⟩ = some (.int .i64 (ns.getD i default).kind)) := Lib.hid (fun W hW i hi => kind_cell HC.out.2.1 HC.out.1 hW i (by rw [HC.out.2.2]; exact hi))
  have KA := Lib.hid (fun W hW => KC.out W hW a ha)
  have IP := Lib.hid (fun W => isPat_any (ns.getD a default).kind W)
  rw [PT.out] at IP
  obtain ⟨ka, hka⟩ : ∃ ka, ka = (ns.getD a default).kind := ⟨_, rfl⟩
  rw [← hka] at KA IP
  clear hka
  have PUT := Lib.hid (fun v v2 W (h : NodesAt W v ns) (h2 : NodesAt W v2 bs) => put_any v v2 ns bs a W h h2 (by have := (few_yes FW.out).1; omega) (by have := (few_yes FB.out).1; omega))
  rw [PL.out, PE.out] at PUT
  simp only [Bool.false_eq_true, if_false] at PUT
  have CP := Lib.hid (fun v W (h : NodesAt W v ps) => Check_any v ps z W h PS.out.1 PS.out.2 CZ.out)
  have KB : Hid (∀ W, Below w.heap.size w W → W.cell? ⟨b2, off2, none⟩ = some (.int .i64 mk)) := Lib.hid (fun W hW => by
    have := kind_cell HC2.out.2.1 HC2.out.1 hW 0 HC2.out.2.2.1
    rw [HC2.out.2.2.2] at this
    simpa using this)
  subst hz
  have gk : (kq == 8) = false := by simpa using hk
  clear hk
  go_enter Try.func7, Try.ntmps7
  go_wp2_with fail
  refine (awake_any _).mono ?_
  rintro e w1 ⟨rfl, b1⟩
  have B1 := Lib.hid b1
  clear b1
  go_wp2_with fail
  refine (FEW.out _ B1.out).mono ?_
  rintro e w2 ⟨rfl, rfl⟩
  go_wp2_with fail
  refine (FEB.out _ B1.out).mono ?_
  rintro e w3 ⟨rfl, rfl⟩
  go_wp2_with fail
  refine (own_bel _ ns w _ H.out HN.out B1.out).mono ?_
  rintro e w4 ⟨v4, rfl, h4, b4⟩
  have B4 := Lib.hid (B1.out.trans (b4.mono B1.out.size))
  clear b4
  obtain ⟨p4, c4, rfl⟩ := nodes_form h4
  have H4 := Lib.hid h4
  clear h4
  go_wp2_with fail
  refine (CHK.out _ _ H4.out).mono ?_
  rintro e w5 ⟨rfl, b5⟩
  have B5 := Lib.hid (B4.out.trans (b5.mono B4.out.size))
  clear b5
  go_wp2_with fail
  refine (own_bel _ bs w _ HB.out HN2.out B5.out).mono ?_
  rintro e w6 ⟨v6, rfl, h6, b6⟩
  have B6 := Lib.hid (B5.out.trans (b6.mono B5.out.size))
  clear b6
  obtain ⟨p6, c6, rfl⟩ := nodes_form h6
  have H6 := Lib.hid h6
  clear h6
  go_wp2_with fail
  refine (CHB.out _ _ H6.out).mono ?_
  rintro e w7 ⟨rfl, b7⟩
  have B7 := Lib.hid (B6.out.trans (b7.mono B6.out.size))
  clear b7
  go_wp2_with fail
  refine (own_bel _ ns w _ H.out HN.out B7.out).mono ?_
  rintro e w8 ⟨v8, rfl, h8, b8⟩
  have B8 := Lib.hid (B7.out.trans (b8.mono B7.out.size))
  clear b8
  obtain ⟨p8, c8, rfl⟩ := nodes_form h8
  have H8 := Lib.hid h8
  clear h8
  go_wp2_with fail
  refine (DP.out _ _ H8.out).mono ?_
  rintro e w9 ⟨_, rfl, rfl, b9⟩
  have B9 := Lib.hid (B8.out.trans (b9.mono B8.out.size))
  clear b9
  go_wp2_with fail
  refine (own_bel _ bs w _ HB.out HN2.out B9.out).mono ?_
  rintro e w10 ⟨v10, rfl, h10, b10⟩
  have B10 := Lib.hid (B9.out.trans (b10.mono B9.out.size))
  clear b10
  obtain ⟨p10, c10, rfl⟩ := nodes_form h10
  have H10 := Lib.hid h10
  clear h10
  go_wp2_with fail
  refine (DB.out _ _ H10.out).mono ?_
  rintro e w11 ⟨_, rfl, rfl, b11⟩
  have B11 := Lib.hid (B10.out.trans (b11.mono B10.out.size))
  clear b11
  have cA := KA.out _ B11.out
  go_wp2_with fail
  refine (IP.out _).mono ?_
  rintro e w12 ⟨rfl, rfl⟩
  go_wp2_with fail
  refine (own_bel _ ns w _ H.out HN.out B11.out).mono ?_
  rintro e w13 ⟨v13, rfl, h13, b13⟩
  have B13 := Lib.hid (B11.out.trans (b13.mono B11.out.size))
  clear b13
  obtain ⟨p13, c13, rfl⟩ := nodes_form h13
  have H13 := Lib.hid h13
  clear h13
  go_wp2_with fail
  refine (UP.out _ _ H13.out).mono ?_
  rintro e w14 ⟨rfl, rfl⟩
  have cQ := KC.out _ B13.out q hq
  rw [KQ.out] at cQ
  go_wp2_with fail
  refine (own_bel _ ns w _ H.out HN.out B13.out).mono ?_
  rintro e w15 ⟨v15, rfl, h15, b15⟩
  have B15 := Lib.hid (B13.out.trans (b15.mono B13.out.size))
  clear b15
  obtain ⟨p15, c15, rfl⟩ := nodes_form h15
  have H15 := Lib.hid h15
  clear h15
  go_wp2_with fail
  refine (own_bel _ bs w _ HB.out HN2.out B15.out).mono ?_
  rintro e w16 ⟨v16, rfl, h16, b16⟩
  have H15_16 := Lib.hid (H15.out.below b16)
  have B16 := Lib.hid (B15.out.trans (b16.mono B15.out.size))
  clear b16
  obtain ⟨p16, c16, rfl⟩ := nodes_form h16
  have H16 := Lib.hid h16
  clear h16
  go_wp2_with fail
  refine (PUT.out _ _ _ H15_16.out H16.out).mono ?_
  rintro e w17 ⟨v17, rfl, h17, b17⟩
  have B17 := Lib.hid (B16.out.trans (b17.mono B16.out.size))
  clear b17
  obtain ⟨p17, c17, rfl⟩ := nodes_form h17
  have H17 := Lib.hid h17
  clear h17
  have cB := KB.out _ B17.out
  go_wp2_with fail
  refine (CP.out _ _ H17.out).mono ?_
  rintro e w18 ⟨rfl, b18⟩
  have B18 := Lib.hid (B17.out.trans (b18.mono B17.out.size))
  clear b18
  go_wp2_with fail
  go_ret
  exact ⟨rfl, B18.out⟩
set_option maxRecDepth 100000 in
set_option maxHeartbeats 8000000 in
theorem puts_j (b off b2 off2 : Nat) (n c n2 c2 : Nat) (ns bs : List Nd) (a q d1 d2 : Nat) (x y z mk : Int) (ps : List Nd) (w : World) (H : Hid (NodesAt w (.slice (some ⟨b, off, none⟩) n c) ns)) (HB : Hid (NodesAt w (.slice (some ⟨b2, off2, none⟩) n2 c2) bs)) (FW : Hid (fewB ns = true)) (FB : Hid (fewB bs = true)) (ha : a < n) (CX : Hid (CheckIs ns 0 x)) (h0 : x = 0) (CY : Hid (CheckIs bs 0 y)) (h1 : y = 0) (D1 : Hid (deepI (kk ns) = d1)) (D2 : Hid (deepI (kk bs) = d2)) (hd1 : d1 ≤ 100) (hd2 : d2 ≤ 100) (hd : d1 + d2 ≤ 90) (HC : Hid (b < w.heap.size ∧ CellsIn w b off (nodeCells ns) ∧ ns.length = n)) (PT : Hid ((decide (21 ≤ (ns.getD a default).kind) && decide ((ns.getD a default).kind ≤ 24)) = false)) (PL : Hid (putL ns a bs = ps)) (PE : Hid (putE ns a bs = false)) (PS : Hid (ps.length ≤ 100000 ∧ Tx ps)) (CZ : Hid (CheckIs ps 0 z)) (HC2 : Hid (b2 < w.heap.size ∧ CellsIn w b2 off2 (nodeCells bs) ∧ 0 < bs.length ∧ (bs.getD 0 default).kind = mk)) (hn2 : 0 < n2) (UP : Hid (∀ v W, NodesAt W v ns → Calls Try.prog 28 #[v, .int .i64 (a : Int)] W (fun e w' => e = .returned (.int .i64 (q : Int)) ∧ W = w'))) (hq : q < n) (kq : Int) (KQ : Hid ((ns.getD q default).kind = kq)) (hk : kq = 8) (hn : Hid (¬ a = q + 1)) (hz : z = 0) :
    Calls Try.prog 7 #[.slice (some ⟨b, off, none⟩) n c, .int .i64 (a : Int), .slice (some ⟨b2, off2, none⟩) n2 c2] w (RB true w) := by
  have FEW := Lib.hid (fun W (hW : Below w.heap.size w W) => few_any _ ns W (H.out.below hW))
  rw [FW.out] at FEW
  have FEB := Lib.hid (fun W (hW : Below w.heap.size w W) => few_any _ bs W (HB.out.below hW))
  rw [FB.out] at FEB
  have ga : decide ((a : Int) < 0) = false := by simp
  have gb : decide ((n : Int) ≤ (a : Int)) = false := by simp; omega
  have gc : decide (n ≤ a) = false := by simp; omega
  have HN : Hid (ns.length ≤ 1000000) := Lib.hid (by have := (few_yes FW.out).1; omega)
  have CHK := Lib.hid (fun v W (h : NodesAt W v ns) => Check_any v ns x W h (by have := (few_yes FW.out).1; omega) (few_yes FW.out).2 CX.out)
  have HN2 : Hid (bs.length ≤ 1000000) := Lib.hid (by have := (few_yes FB.out).1; omega)
  have CHB := Lib.hid (fun v W (h : NodesAt W v bs) => Check_any v bs y W h (by have := (few_yes FB.out).1; omega) (few_yes FB.out).2 CY.out)
  have DP := Lib.hid (fun v W (h : NodesAt W v ns) => deep_any v ns W h HN.out)
  have DB := Lib.hid (fun v W (h : NodesAt W v bs) => deep_any v bs W h HN2.out)
  rw [D1.out] at DP
  rw [D2.out] at DB
  subst h0
  subst h1
  have gd : decide ((90 : Int) < (d1 : Int) + (d2 : Int)) = false := by simp; omega
  have gd2 : decide (90 < d1 + d2) = false := by simp; omega
  have KC : Hid (∀ W, Below w.heap.size w W → ∀ i, i < n → W.cell? ⟨b, off + i * 4, none⟩ = some (.int .i64 (ns.getD i default).kind)) := Lib.hid (fun W hW i hi => kind_cell HC.out.2.1 HC.out.1 hW i (by rw [HC.out.2.2]; exact hi))
  have KA := Lib.hid (fun W hW => KC.out W hW a ha)
  have IP := Lib.hid (fun W => isPat_any (ns.getD a default).kind W)
  rw [PT.out] at IP
  obtain ⟨ka, hka⟩ : ∃ ka, ka = (ns.getD a default).kind := ⟨_, rfl⟩
  rw [← hka] at KA IP
  clear hka
  have PUT := Lib.hid (fun v v2 W (h : NodesAt W v ns) (h2 : NodesAt W v2 bs) => put_any v v2 ns bs a W h h2 (by have := (few_yes FW.out).1; omega) (by have := (few_yes FB.out).1; omega))
  rw [PL.out, PE.out] at PUT
  simp only [Bool.false_eq_true, if_false] at PUT
  have CP := Lib.hid (fun v W (h : NodesAt W v ps) => Check_any v ps z W h PS.out.1 PS.out.2 CZ.out)
  have KB : Hid (∀ W, Below w.heap.size w W → W.cell? ⟨b2, off2, none⟩ = some (.int .i64 mk)) := Lib.hid (fun W hW => by
    have := kind_cell HC2.out.2.1 HC2.out.1 hW 0 HC2.out.2.2.1
    rw [HC2.out.2.2.2] at this
    simpa using this)
  subst hz
  subst hk
  have gq0 : wrap64 ((q : Int) + 1) = (q : Int) + 1 := by have h1 := (few_yes FW.out).1; have h2 := HC.out.2.2; unfold wrap64; omega
  have gq : ((a : Int) == wrap64 ((q : Int) + 1)) = false := by rw [gq0]; have := hn.out; simp; omega
  have gq2 : decide ((a : Int) = wrap64 ((q : Int) + 1)) = false := by rw [gq0]; have := hn.out; simp; omega
  clear gq0 hn
  go_enter Try.func7, Try.ntmps7
  go_wp2_with fail
  refine (awake_any _).mono ?_
  rintro e w1 ⟨rfl, b1⟩
  have B1 := Lib.hid b1
  clear b1
  go_wp2_with fail
  refine (FEW.out _ B1.out).mono ?_
  rintro e w2 ⟨rfl, rfl⟩
  go_wp2_with fail
  refine (FEB.out _ B1.out).mono ?_
  rintro e w3 ⟨rfl, rfl⟩
  go_wp2_with fail
  refine (own_bel _ ns w _ H.out HN.out B1.out).mono ?_
  rintro e w4 ⟨v4, rfl, h4, b4⟩
  have B4 := Lib.hid (B1.out.trans (b4.mono B1.out.size))
  clear b4
  obtain ⟨p4, c4, rfl⟩ := nodes_form h4
  have H4 := Lib.hid h4
  clear h4
  go_wp2_with fail
  refine (CHK.out _ _ H4.out).mono ?_
  rintro e w5 ⟨rfl, b5⟩
  have B5 := Lib.hid (B4.out.trans (b5.mono B4.out.size))
  clear b5
  go_wp2_with fail
  refine (own_bel _ bs w _ HB.out HN2.out B5.out).mono ?_
  rintro e w6 ⟨v6, rfl, h6, b6⟩
  have B6 := Lib.hid (B5.out.trans (b6.mono B5.out.size))
  clear b6
  obtain ⟨p6, c6, rfl⟩ := nodes_form h6
  have H6 := Lib.hid h6
  clear h6
  go_wp2_with fail
  refine (CHB.out _ _ H6.out).mono ?_
  rintro e w7 ⟨rfl, b7⟩
  have B7 := Lib.hid (B6.out.trans (b7.mono B6.out.size))
  clear b7
  go_wp2_with fail
  refine (own_bel _ ns w _ H.out HN.out B7.out).mono ?_
  rintro e w8 ⟨v8, rfl, h8, b8⟩
  have B8 := Lib.hid (B7.out.trans (b8.mono B7.out.size))
  clear b8
  obtain ⟨p8, c8, rfl⟩ := nodes_form h8
  have H8 := Lib.hid h8
  clear h8
  go_wp2_with fail
  refine (DP.out _ _ H8.out).mono ?_
  rintro e w9 ⟨_, rfl, rfl, b9⟩
  have B9 := Lib.hid (B8.out.trans (b9.mono B8.out.size))
  clear b9
  go_wp2_with fail
  refine (own_bel _ bs w _ HB.out HN2.out B9.out).mono ?_
  rintro e w10 ⟨v10, rfl, h10, b10⟩
  have B10 := Lib.hid (B9.out.trans (b10.mono B9.out.size))
  clear b10
  obtain ⟨p10, c10, rfl⟩ := nodes_form h10
  have H10 := Lib.hid h10
  clear h10
  go_wp2_with fail
  refine (DB.out _ _ H10.out).mono ?_
  rintro e w11 ⟨_, rfl, rfl, b11⟩
  have B11 := Lib.hid (B10.out.trans (b11.mono B10.out.size))
  clear b11
  have cA := KA.out _ B11.out
  go_wp2_with fail
  refine (IP.out _).mono ?_
  rintro e w12 ⟨rfl, rfl⟩
  go_wp2_with fail
  refine (own_bel _ ns w _ H.out HN.out B11.out).mono ?_
  rintro e w13 ⟨v13, rfl, h13, b13⟩
  have B13 := Lib.hid (B11.out.trans (b13.mono B11.out.size))
  clear b13
  obtain ⟨p13, c13, rfl⟩ := nodes_form h13
  have H13 := Lib.hid h13
  clear h13
  go_wp2_with fail
  refine (UP.out _ _ H13.out).mono ?_
  rintro e w14 ⟨rfl, rfl⟩
  have cQ := KC.out _ B13.out q hq
  rw [KQ.out] at cQ
  go_wp2_with fail
  refine (own_bel _ ns w _ H.out HN.out B13.out).mono ?_
  rintro e w15 ⟨v15, rfl, h15, b15⟩
  have B15 := Lib.hid (B13.out.trans (b15.mono B13.out.size))
  clear b15
  obtain ⟨p15, c15, rfl⟩ := nodes_form h15
  have H15 := Lib.hid h15
  clear h15
  go_wp2_with fail
  refine (own_bel _ bs w _ HB.out HN2.out B15.out).mono ?_
  rintro e w16 ⟨v16, rfl, h16, b16⟩
  have H15_16 := Lib.hid (H15.out.below b16)
  have B16 := Lib.hid (B15.out.trans (b16.mono B15.out.size))
  clear b16
  obtain ⟨p16, c16, rfl⟩ := nodes_form h16
  have H16 := Lib.hid h16
  clear h16
  go_wp2_with fail
  refine (PUT.out _ _ _ H15_16.out H16.out).mono ?_
  rintro e w17 ⟨v17, rfl, h17, b17⟩
  have B17 := Lib.hid (B16.out.trans (b17.mono B16.out.size))
  clear b17
  obtain ⟨p17, c17, rfl⟩ := nodes_form h17
  have H17 := Lib.hid h17
  clear h17
  have cB := KB.out _ B17.out
  go_wp2_with fail
  refine (CP.out _ _ H17.out).mono ?_
  rintro e w18 ⟨rfl, b18⟩
  have B18 := Lib.hid (B17.out.trans (b18.mono B17.out.size))
  clear b18
  go_wp2_with fail
  go_ret
  exact ⟨rfl, B18.out⟩
set_option maxRecDepth 100000 in
set_option maxHeartbeats 8000000 in
theorem puts_k (b off b2 off2 : Nat) (n c n2 c2 : Nat) (ns bs : List Nd) (a q d1 d2 : Nat) (x y z mk : Int) (ps : List Nd) (w : World) (H : Hid (NodesAt w (.slice (some ⟨b, off, none⟩) n c) ns)) (HB : Hid (NodesAt w (.slice (some ⟨b2, off2, none⟩) n2 c2) bs)) (FW : Hid (fewB ns = true)) (FB : Hid (fewB bs = true)) (ha : a < n) (CX : Hid (CheckIs ns 0 x)) (h0 : x = 0) (CY : Hid (CheckIs bs 0 y)) (h1 : y = 0) (D1 : Hid (deepI (kk ns) = d1)) (D2 : Hid (deepI (kk bs) = d2)) (hd1 : d1 ≤ 100) (hd2 : d2 ≤ 100) (hd : d1 + d2 ≤ 90) (HC : Hid (b < w.heap.size ∧ CellsIn w b off (nodeCells ns) ∧ ns.length = n)) (PT : Hid ((decide (21 ≤ (ns.getD a default).kind) && decide ((ns.getD a default).kind ≤ 24)) = false)) (PL : Hid (putL ns a bs = ps)) (PE : Hid (putE ns a bs = false)) (PS : Hid (ps.length ≤ 100000 ∧ Tx ps)) (CZ : Hid (CheckIs ps 0 z)) (HC2 : Hid (b2 < w.heap.size ∧ CellsIn w b2 off2 (nodeCells bs) ∧ 0 < bs.length ∧ (bs.getD 0 default).kind = mk)) (hn2 : 0 < n2) (UP : Hid (∀ v W, NodesAt W v ns → Calls Try.prog 28 #[v, .int .i64 (a : Int)] W (fun e w' => e = .returned (.int .i64 (q : Int)) ∧ W = w'))) (hq : q < n) (kq : Int) (KQ : Hid ((ns.getD q default).kind = kq)) (hk : kq = 8) (hn : Hid (a = q + 1)) (hm : mk = 5) (hz : z = 0) :
    Calls Try.prog 7 #[.slice (some ⟨b, off, none⟩) n c, .int .i64 (a : Int), .slice (some ⟨b2, off2, none⟩) n2 c2] w (RB true w) := by
  have FEW := Lib.hid (fun W (hW : Below w.heap.size w W) => few_any _ ns W (H.out.below hW))
  rw [FW.out] at FEW
  have FEB := Lib.hid (fun W (hW : Below w.heap.size w W) => few_any _ bs W (HB.out.below hW))
  rw [FB.out] at FEB
  have ga : decide ((a : Int) < 0) = false := by simp
  have gb : decide ((n : Int) ≤ (a : Int)) = false := by simp; omega
  have gc : decide (n ≤ a) = false := by simp; omega
  have HN : Hid (ns.length ≤ 1000000) := Lib.hid (by have := (few_yes FW.out).1; omega)
  have CHK := Lib.hid (fun v W (h : NodesAt W v ns) => Check_any v ns x W h (by have := (few_yes FW.out).1; omega) (few_yes FW.out).2 CX.out)
  have HN2 : Hid (bs.length ≤ 1000000) := Lib.hid (by have := (few_yes FB.out).1; omega)
  have CHB := Lib.hid (fun v W (h : NodesAt W v bs) => Check_any v bs y W h (by have := (few_yes FB.out).1; omega) (few_yes FB.out).2 CY.out)
  have DP := Lib.hid (fun v W (h : NodesAt W v ns) => deep_any v ns W h HN.out)
  have DB := Lib.hid (fun v W (h : NodesAt W v bs) => deep_any v bs W h HN2.out)
  rw [D1.out] at DP
  rw [D2.out] at DB
  subst h0
  subst h1
  have gd : decide ((90 : Int) < (d1 : Int) + (d2 : Int)) = false := by simp; omega
  have gd2 : decide (90 < d1 + d2) = false := by simp; omega
  have KC : Hid (∀ W, Below w.heap.size w W → ∀ i, i < n → W.cell? ⟨b, off + i * 4, none⟩ = some (.int .i64 (ns.getD i default).kind)) := Lib.hid (fun W hW i hi => kind_cell HC.out.2.1 HC.out.1 hW i (by rw [HC.out.2.2]; exact hi))
  have KA := Lib.hid (fun W hW => KC.out W hW a ha)
  have IP := Lib.hid (fun W => isPat_any (ns.getD a default).kind W)
  rw [PT.out] at IP
  obtain ⟨ka, hka⟩ : ∃ ka, ka = (ns.getD a default).kind := ⟨_, rfl⟩
  rw [← hka] at KA IP
  clear hka
  have PUT := Lib.hid (fun v v2 W (h : NodesAt W v ns) (h2 : NodesAt W v2 bs) => put_any v v2 ns bs a W h h2 (by have := (few_yes FW.out).1; omega) (by have := (few_yes FB.out).1; omega))
  rw [PL.out, PE.out] at PUT
  simp only [Bool.false_eq_true, if_false] at PUT
  have CP := Lib.hid (fun v W (h : NodesAt W v ps) => Check_any v ps z W h PS.out.1 PS.out.2 CZ.out)
  have KB : Hid (∀ W, Below w.heap.size w W → W.cell? ⟨b2, off2, none⟩ = some (.int .i64 mk)) := Lib.hid (fun W hW => by
    have := kind_cell HC2.out.2.1 HC2.out.1 hW 0 HC2.out.2.2.1
    rw [HC2.out.2.2.2] at this
    simpa using this)
  subst hz
  subst hk
  subst hm
  have gq0 : wrap64 ((q : Int) + 1) = (q : Int) + 1 := by have h1 := (few_yes FW.out).1; have h2 := HC.out.2.2; unfold wrap64; omega
  have gq : ((a : Int) == wrap64 ((q : Int) + 1)) = true := by rw [gq0]; have := hn.out; simp; omega
  have gq2 : decide ((a : Int) = wrap64 ((q : Int) + 1)) = true := by rw [gq0]; have := hn.out; simp; omega
  clear gq0 hn
  go_enter Try.func7, Try.ntmps7
  go_wp2_with fail
  refine (awake_any _).mono ?_
  rintro e w1 ⟨rfl, b1⟩
  have B1 := Lib.hid b1
  clear b1
  go_wp2_with fail
  refine (FEW.out _ B1.out).mono ?_
  rintro e w2 ⟨rfl, rfl⟩
  go_wp2_with fail
  refine (FEB.out _ B1.out).mono ?_
  rintro e w3 ⟨rfl, rfl⟩
  go_wp2_with fail
  refine (own_bel _ ns w _ H.out HN.out B1.out).mono ?_
  rintro e w4 ⟨v4, rfl, h4, b4⟩
  have B4 := Lib.hid (B1.out.trans (b4.mono B1.out.size))
  clear b4
  obtain ⟨p4, c4, rfl⟩ := nodes_form h4
  have H4 := Lib.hid h4
  clear h4
  go_wp2_with fail
  refine (CHK.out _ _ H4.out).mono ?_
  rintro e w5 ⟨rfl, b5⟩
  have B5 := Lib.hid (B4.out.trans (b5.mono B4.out.size))
  clear b5
  go_wp2_with fail
  refine (own_bel _ bs w _ HB.out HN2.out B5.out).mono ?_
  rintro e w6 ⟨v6, rfl, h6, b6⟩
  have B6 := Lib.hid (B5.out.trans (b6.mono B5.out.size))
  clear b6
  obtain ⟨p6, c6, rfl⟩ := nodes_form h6
  have H6 := Lib.hid h6
  clear h6
  go_wp2_with fail
  refine (CHB.out _ _ H6.out).mono ?_
  rintro e w7 ⟨rfl, b7⟩
  have B7 := Lib.hid (B6.out.trans (b7.mono B6.out.size))
  clear b7
  go_wp2_with fail
  refine (own_bel _ ns w _ H.out HN.out B7.out).mono ?_
  rintro e w8 ⟨v8, rfl, h8, b8⟩
  have B8 := Lib.hid (B7.out.trans (b8.mono B7.out.size))
  clear b8
  obtain ⟨p8, c8, rfl⟩ := nodes_form h8
  have H8 := Lib.hid h8
  clear h8
  go_wp2_with fail
  refine (DP.out _ _ H8.out).mono ?_
  rintro e w9 ⟨_, rfl, rfl, b9⟩
  have B9 := Lib.hid (B8.out.trans (b9.mono B8.out.size))
  clear b9
  go_wp2_with fail
  refine (own_bel _ bs w _ HB.out HN2.out B9.out).mono ?_
  rintro e w10 ⟨v10, rfl, h10, b10⟩
  have B10 := Lib.hid (B9.out.trans (b10.mono B9.out.size))
  clear b10
  obtain ⟨p10, c10, rfl⟩ := nodes_form h10
  have H10 := Lib.hid h10
  clear h10
  go_wp2_with fail
  refine (DB.out _ _ H10.out).mono ?_
  rintro e w11 ⟨_, rfl, rfl, b11⟩
  have B11 := Lib.hid (B10.out.trans (b11.mono B10.out.size))
  clear b11
  have cA := KA.out _ B11.out
  go_wp2_with fail
  refine (IP.out _).mono ?_
  rintro e w12 ⟨rfl, rfl⟩
  go_wp2_with fail
  refine (own_bel _ ns w _ H.out HN.out B11.out).mono ?_
  rintro e w13 ⟨v13, rfl, h13, b13⟩
  have B13 := Lib.hid (B11.out.trans (b13.mono B11.out.size))
  clear b13
  obtain ⟨p13, c13, rfl⟩ := nodes_form h13
  have H13 := Lib.hid h13
  clear h13
  go_wp2_with fail
  refine (UP.out _ _ H13.out).mono ?_
  rintro e w14 ⟨rfl, rfl⟩
  have cQ := KC.out _ B13.out q hq
  rw [KQ.out] at cQ
  go_wp2_with fail
  refine (own_bel _ ns w _ H.out HN.out B13.out).mono ?_
  rintro e w15 ⟨v15, rfl, h15, b15⟩
  have B15 := Lib.hid (B13.out.trans (b15.mono B13.out.size))
  clear b15
  obtain ⟨p15, c15, rfl⟩ := nodes_form h15
  have H15 := Lib.hid h15
  clear h15
  go_wp2_with fail
  refine (own_bel _ bs w _ HB.out HN2.out B15.out).mono ?_
  rintro e w16 ⟨v16, rfl, h16, b16⟩
  have H15_16 := Lib.hid (H15.out.below b16)
  have B16 := Lib.hid (B15.out.trans (b16.mono B15.out.size))
  clear b16
  obtain ⟨p16, c16, rfl⟩ := nodes_form h16
  have H16 := Lib.hid h16
  clear h16
  go_wp2_with fail
  refine (PUT.out _ _ _ H15_16.out H16.out).mono ?_
  rintro e w17 ⟨v17, rfl, h17, b17⟩
  have B17 := Lib.hid (B16.out.trans (b17.mono B16.out.size))
  clear b17
  obtain ⟨p17, c17, rfl⟩ := nodes_form h17
  have H17 := Lib.hid h17
  clear h17
  have cB := KB.out _ B17.out
  go_wp2_with fail
  refine (CP.out _ _ H17.out).mono ?_
  rintro e w18 ⟨rfl, b18⟩
  have B18 := Lib.hid (B17.out.trans (b18.mono B17.out.size))
  clear b18
  go_wp2_with fail
  go_ret
  exact ⟨rfl, B18.out⟩
set_option maxRecDepth 100000 in
set_option maxHeartbeats 8000000 in
theorem puts_l (b off b2 off2 : Nat) (n c n2 c2 : Nat) (ns bs : List Nd) (a q d1 d2 : Nat) (x y z mk : Int) (ps : List Nd) (w : World) (H : Hid (NodesAt w (.slice (some ⟨b, off, none⟩) n c) ns)) (HB : Hid (NodesAt w (.slice (some ⟨b2, off2, none⟩) n2 c2) bs)) (FW : Hid (fewB ns = true)) (FB : Hid (fewB bs = true)) (ha : a < n) (CX : Hid (CheckIs ns 0 x)) (h0 : x = 0) (CY : Hid (CheckIs bs 0 y)) (h1 : y = 0) (D1 : Hid (deepI (kk ns) = d1)) (D2 : Hid (deepI (kk bs) = d2)) (hd1 : d1 ≤ 100) (hd2 : d2 ≤ 100) (hd : d1 + d2 ≤ 90) (HC : Hid (b < w.heap.size ∧ CellsIn w b off (nodeCells ns) ∧ ns.length = n)) (PT : Hid ((decide (21 ≤ (ns.getD a default).kind) && decide ((ns.getD a default).kind ≤ 24)) = false)) (PL : Hid (putL ns a bs = ps)) (PE : Hid (putE ns a bs = false)) (PS : Hid (ps.length ≤ 100000 ∧ Tx ps)) (CZ : Hid (CheckIs ps 0 z)) (HC2 : Hid (b2 < w.heap.size ∧ CellsIn w b2 off2 (nodeCells bs) ∧ 0 < bs.length ∧ (bs.getD 0 default).kind = mk)) (hn2 : 0 < n2) (UP : Hid (∀ v W, NodesAt W v ns → Calls Try.prog 28 #[v, .int .i64 (a : Int)] W (fun e w' => e = .returned (.int .i64 (q : Int)) ∧ W = w'))) (hq : q < n) (kq : Int) (KQ : Hid ((ns.getD q default).kind = kq)) (hk : kq = 8) (hn : Hid (a = q + 1)) (hm : ¬ mk = 5) (hz : z = 61) :
    Calls Try.prog 7 #[.slice (some ⟨b, off, none⟩) n c, .int .i64 (a : Int), .slice (some ⟨b2, off2, none⟩) n2 c2] w (RB true w) := by
  have FEW := Lib.hid (fun W (hW : Below w.heap.size w W) => few_any _ ns W (H.out.below hW))
  rw [FW.out] at FEW
  have FEB := Lib.hid (fun W (hW : Below w.heap.size w W) => few_any _ bs W (HB.out.below hW))
  rw [FB.out] at FEB
  have ga : decide ((a : Int) < 0) = false := by simp
  have gb : decide ((n : Int) ≤ (a : Int)) = false := by simp; omega
  have gc : decide (n ≤ a) = false := by simp; omega
  have HN : Hid (ns.length ≤ 1000000) := Lib.hid (by have := (few_yes FW.out).1; omega)
  have CHK := Lib.hid (fun v W (h : NodesAt W v ns) => Check_any v ns x W h (by have := (few_yes FW.out).1; omega) (few_yes FW.out).2 CX.out)
  have HN2 : Hid (bs.length ≤ 1000000) := Lib.hid (by have := (few_yes FB.out).1; omega)
  have CHB := Lib.hid (fun v W (h : NodesAt W v bs) => Check_any v bs y W h (by have := (few_yes FB.out).1; omega) (few_yes FB.out).2 CY.out)
  have DP := Lib.hid (fun v W (h : NodesAt W v ns) => deep_any v ns W h HN.out)
  have DB := Lib.hid (fun v W (h : NodesAt W v bs) => deep_any v bs W h HN2.out)
  rw [D1.out] at DP
  rw [D2.out] at DB
  subst h0
  subst h1
  have gd : decide ((90 : Int) < (d1 : Int) + (d2 : Int)) = false := by simp; omega
  have gd2 : decide (90 < d1 + d2) = false := by simp; omega
  have KC : Hid (∀ W, Below w.heap.size w W → ∀ i, i < n → W.cell? ⟨b, off + i * 4, none⟩ = some (.int .i64 (ns.getD i default).kind)) := Lib.hid (fun W hW i hi => kind_cell HC.out.2.1 HC.out.1 hW i (by rw [HC.out.2.2]; exact hi))
  have KA := Lib.hid (fun W hW => KC.out W hW a ha)
  have IP := Lib.hid (fun W => isPat_any (ns.getD a default).kind W)
  rw [PT.out] at IP
  obtain ⟨ka, hka⟩ : ∃ ka, ka = (ns.getD a default).kind := ⟨_, rfl⟩
  rw [← hka] at KA IP
  clear hka
  have PUT := Lib.hid (fun v v2 W (h : NodesAt W v ns) (h2 : NodesAt W v2 bs) => put_any v v2 ns bs a W h h2 (by have := (few_yes FW.out).1; omega) (by have := (few_yes FB.out).1; omega))
  rw [PL.out, PE.out] at PUT
  simp only [Bool.false_eq_true, if_false] at PUT
  have CP := Lib.hid (fun v W (h : NodesAt W v ps) => Check_any v ps z W h PS.out.1 PS.out.2 CZ.out)
  have KB : Hid (∀ W, Below w.heap.size w W → W.cell? ⟨b2, off2, none⟩ = some (.int .i64 mk)) := Lib.hid (fun W hW => by
    have := kind_cell HC2.out.2.1 HC2.out.1 hW 0 HC2.out.2.2.1
    rw [HC2.out.2.2.2] at this
    simpa using this)
  subst hz
  subst hk
  have gm : (mk != 5) = true := by simpa using hm
  clear hm
  have gq0 : wrap64 ((q : Int) + 1) = (q : Int) + 1 := by have h1 := (few_yes FW.out).1; have h2 := HC.out.2.2; unfold wrap64; omega
  have gq : ((a : Int) == wrap64 ((q : Int) + 1)) = true := by rw [gq0]; have := hn.out; simp; omega
  have gq2 : decide ((a : Int) = wrap64 ((q : Int) + 1)) = true := by rw [gq0]; have := hn.out; simp; omega
  clear gq0 hn
  go_enter Try.func7, Try.ntmps7
  go_wp2_with fail
  refine (awake_any _).mono ?_
  rintro e w1 ⟨rfl, b1⟩
  have B1 := Lib.hid b1
  clear b1
  go_wp2_with fail
  refine (FEW.out _ B1.out).mono ?_
  rintro e w2 ⟨rfl, rfl⟩
  go_wp2_with fail
  refine (FEB.out _ B1.out).mono ?_
  rintro e w3 ⟨rfl, rfl⟩
  go_wp2_with fail
  refine (own_bel _ ns w _ H.out HN.out B1.out).mono ?_
  rintro e w4 ⟨v4, rfl, h4, b4⟩
  have B4 := Lib.hid (B1.out.trans (b4.mono B1.out.size))
  clear b4
  obtain ⟨p4, c4, rfl⟩ := nodes_form h4
  have H4 := Lib.hid h4
  clear h4
  go_wp2_with fail
  refine (CHK.out _ _ H4.out).mono ?_
  rintro e w5 ⟨rfl, b5⟩
  have B5 := Lib.hid (B4.out.trans (b5.mono B4.out.size))
  clear b5
  go_wp2_with fail
  refine (own_bel _ bs w _ HB.out HN2.out B5.out).mono ?_
  rintro e w6 ⟨v6, rfl, h6, b6⟩
  have B6 := Lib.hid (B5.out.trans (b6.mono B5.out.size))
  clear b6
  obtain ⟨p6, c6, rfl⟩ := nodes_form h6
  have H6 := Lib.hid h6
  clear h6
  go_wp2_with fail
  refine (CHB.out _ _ H6.out).mono ?_
  rintro e w7 ⟨rfl, b7⟩
  have B7 := Lib.hid (B6.out.trans (b7.mono B6.out.size))
  clear b7
  go_wp2_with fail
  refine (own_bel _ ns w _ H.out HN.out B7.out).mono ?_
  rintro e w8 ⟨v8, rfl, h8, b8⟩
  have B8 := Lib.hid (B7.out.trans (b8.mono B7.out.size))
  clear b8
  obtain ⟨p8, c8, rfl⟩ := nodes_form h8
  have H8 := Lib.hid h8
  clear h8
  go_wp2_with fail
  refine (DP.out _ _ H8.out).mono ?_
  rintro e w9 ⟨_, rfl, rfl, b9⟩
  have B9 := Lib.hid (B8.out.trans (b9.mono B8.out.size))
  clear b9
  go_wp2_with fail
  refine (own_bel _ bs w _ HB.out HN2.out B9.out).mono ?_
  rintro e w10 ⟨v10, rfl, h10, b10⟩
  have B10 := Lib.hid (B9.out.trans (b10.mono B9.out.size))
  clear b10
  obtain ⟨p10, c10, rfl⟩ := nodes_form h10
  have H10 := Lib.hid h10
  clear h10
  go_wp2_with fail
  refine (DB.out _ _ H10.out).mono ?_
  rintro e w11 ⟨_, rfl, rfl, b11⟩
  have B11 := Lib.hid (B10.out.trans (b11.mono B10.out.size))
  clear b11
  have cA := KA.out _ B11.out
  go_wp2_with fail
  refine (IP.out _).mono ?_
  rintro e w12 ⟨rfl, rfl⟩
  go_wp2_with fail
  refine (own_bel _ ns w _ H.out HN.out B11.out).mono ?_
  rintro e w13 ⟨v13, rfl, h13, b13⟩
  have B13 := Lib.hid (B11.out.trans (b13.mono B11.out.size))
  clear b13
  obtain ⟨p13, c13, rfl⟩ := nodes_form h13
  have H13 := Lib.hid h13
  clear h13
  go_wp2_with fail
  refine (UP.out _ _ H13.out).mono ?_
  rintro e w14 ⟨rfl, rfl⟩
  have cQ := KC.out _ B13.out q hq
  rw [KQ.out] at cQ
  go_wp2_with fail
  refine (own_bel _ ns w _ H.out HN.out B13.out).mono ?_
  rintro e w15 ⟨v15, rfl, h15, b15⟩
  have B15 := Lib.hid (B13.out.trans (b15.mono B13.out.size))
  clear b15
  obtain ⟨p15, c15, rfl⟩ := nodes_form h15
  have H15 := Lib.hid h15
  clear h15
  go_wp2_with fail
  refine (own_bel _ bs w _ HB.out HN2.out B15.out).mono ?_
  rintro e w16 ⟨v16, rfl, h16, b16⟩
  have H15_16 := Lib.hid (H15.out.below b16)
  have B16 := Lib.hid (B15.out.trans (b16.mono B15.out.size))
  clear b16
  obtain ⟨p16, c16, rfl⟩ := nodes_form h16
  have H16 := Lib.hid h16
  clear h16
  go_wp2_with fail
  refine (PUT.out _ _ _ H15_16.out H16.out).mono ?_
  rintro e w17 ⟨v17, rfl, h17, b17⟩
  have B17 := Lib.hid (B16.out.trans (b17.mono B16.out.size))
  clear b17
  obtain ⟨p17, c17, rfl⟩ := nodes_form h17
  have H17 := Lib.hid h17
  clear h17
  have cB := KB.out _ B17.out
  go_wp2_with fail
  refine (CP.out _ _ H17.out).mono ?_
  rintro e w18 ⟨rfl, b18⟩
  have B18 := Lib.hid (B17.out.trans (b18.mono B17.out.size))
  clear b18
  go_wp2_with fail
  go_ret
  exact ⟨rfl, B18.out⟩
theorem puts_walk (v v2 : Value) (ns bs : List Nd) (i : Int) (w : World) (h : NodesAt w v ns) (h2 : NodesAt w v2 bs) : Calls Try.prog 7 #[v, .int .i64 i, v2] w (RB true w) := by
  cases hf : fewB ns with
  | false =>
    obtain ⟨p, c, rfl⟩ := nodes_form h
    obtain ⟨p2, c2, rfl⟩ := nodes_form h2
    exact puts_a p p2 _ c _ c2 ns bs i w (Lib.hid h) (Lib.hid h2) (Lib.hid hf)
  | true =>
    cases hf2 : fewB bs with
    | false =>
      obtain ⟨p, c, rfl⟩ := nodes_form h
      obtain ⟨p2, c2, rfl⟩ := nodes_form h2
      exact puts_b p p2 _ c _ c2 ns bs i w (Lib.hid h) (Lib.hid h2) (Lib.hid hf) (Lib.hid hf2)
    | true =>
      by_cases hi : i < 0
      · obtain ⟨p, c, rfl⟩ := nodes_form h
        obtain ⟨p2, c2, rfl⟩ := nodes_form h2
        exact puts_c1 p p2 _ c _ c2 ns bs i w (Lib.hid h) (Lib.hid h2) (Lib.hid hf) (Lib.hid hf2) hi
      · obtain ⟨a, rfl⟩ : ∃ a : Nat, i = (a : Int) := ⟨i.toNat, by omega⟩
        by_cases ha : ns.length ≤ a
        · obtain ⟨p, c, rfl⟩ := nodes_form h
          obtain ⟨p2, c2, rfl⟩ := nodes_form h2
          exact puts_c2 p p2 _ c _ c2 ns bs a w (Lib.hid h) (Lib.hid h2) (Lib.hid hf) (Lib.hid hf2) ha
        · have ha : a < ns.length := by omega
          obtain ⟨x, hx⟩ := check_ex ns 0
          by_cases h0 : x = 0
          · obtain ⟨y, hy⟩ := check_ex bs 0
            by_cases h1 : y = 0
            · have hx' := hx
              have hy' := hy
              rcases hx with ⟨_, e⟩ | ⟨f, f1, f2, f3, f4⟩
              · rw [e] at h0; cases h0
              · rcases hy with ⟨_, e⟩ | ⟨g, g1, g2, g3, g4⟩
                · rw [e] at h1; cases h1
                · have hz : synE f 0 = 0 := by rw [← f4, h0]
                  have gz : synE g 0 = 0 := by rw [← g4, h1]
                  have dx : deepI (kk ns) = deepF f := by rw [← f3]; exact deep_flat f f1 f2
                  have dy : deepI (kk bs) = deepF g := by rw [← g3]; exact deep_flat g g1 g2
                  have sx : f.sz ≤ 120 := by rw [← F.flat_length, f3]; exact (few_yes hf).1
                  have sy : g.sz ≤ 120 := by rw [← F.flat_length, g3]; exact (few_yes hf2).1
                  have bx := (synE_zero hz).2.1
                  have by' := (synE_zero gz).2.1
                  obtain ⟨m, k2, rfl⟩ := one_of g g2
                  have g3' := g3
                  rw [one_flat] at g3
                  have hbl : 0 < bs.length := by rw [← g3]; simp
                  obtain ⟨b, off, c, rfl, _, _, hb, hc⟩ := nodes_slice h (by omega)
                  obtain ⟨b2, off2, c2, rfl, _, _, hb2, hc2⟩ := nodes_slice h2 hbl
                  by_cases hd : deepF f + deepF (.cons m k2 .nil) ≤ 90
                  · cases hp : (decide (21 ≤ (ns.getD a default).kind) && decide ((ns.getD a default).kind ≤ 24)) with
                    | true => exact puts_g b off b2 off2 _ c _ c2 ns bs a _ _ x y w (Lib.hid h) (Lib.hid h2) (Lib.hid hf) (Lib.hid hf2) ha (Lib.hid hx') h0 (Lib.hid hy') h1 (Lib.hid dx) (Lib.hid dy) bx by' hd (Lib.hid ⟨hb, hc, rfl⟩) (Lib.hid hp)
                    | false =>
                      have sy' : 1 + k2.sz ≤ 120 := by simpa [F.sz] using sy
                      have hd' : deepF f + (1 + deepF k2) ≤ 90 := by simpa [deepF] using hd
                      obtain ⟨f', p1, p2, p3, p4, p5, p6⟩ := put_is ns bs f f1 f2 f3 hz m k2 g1.1 g1.2.1 g3 gz sx sy' hd' a ha hp
                      have hmk : (bs.getD 0 default).kind = m.kind := by rw [← g3]; rfl
                      have hps : f'.flat.length ≤ 100000 ∧ Tx f'.flat := by
                        refine ⟨by rw [F.flat_length]; omega, fun t ht => ?_⟩
                        rw [← p4] at ht
                        unfold putL at ht
                        rw [p3] at ht
                        simp only [Bool.false_eq_true, if_false] at ht
                        rcases List.mem_append.1 ht with ht | ht
                        · exact (few_yes hf).2 t (List.mem_of_mem_take ht)
                        · rcases List.mem_append.1 ht with ht | ht
                          · exact (few_yes hf2).2 t ht
                          · exact (few_yes hf).2 t (List.mem_of_mem_drop ht)
                      have hck : CheckIs f'.flat 0 (synE f' 0) := .inr ⟨f', p1, p2, rfl, rfl⟩
                      have hcc : Hid (b2 < w.heap.size ∧ CellsIn w b2 off2 (nodeCells bs) ∧ 0 < bs.length ∧ (bs.getD 0 default).kind = m.kind) := Lib.hid ⟨hb2, hc2, hbl, hmk⟩
                      have hw : wholeB (kk ns) = true := by rw [← f3]; exact whole_flat f f1 f2
                      have hn : ns.length ≤ 1000000 := by have := (few_yes hf).1; omega
                      have haf : a < f.sz := by rw [← F.flat_length, f3]; exact ha
                      rcases Nat.eq_zero_or_pos a with rfl | hpos
                      · have hz0 : synE f' 0 = 0 := by
                          rw [p6, if_neg]
                          rintro ⟨h8, _⟩
                          simp [prevK] at h8
                        exact puts_h b off b2 off2 _ c _ c2 ns bs _ _ x y _ m.kind f'.flat w (Lib.hid h) (Lib.hid h2) (Lib.hid hf) (Lib.hid hf2) ha (Lib.hid hx') h0 (Lib.hid hy') h1 (Lib.hid dx) (Lib.hid dy) bx by' hd (Lib.hid ⟨hb, hc, rfl⟩) (Lib.hid hp) (Lib.hid p4) (Lib.hid p3) (Lib.hid hps) (Lib.hid hck) hcc hbl hz0
                      · obtain ⟨q, hq⟩ := par_ex (kk ns) hw a hpos (by rw [length_kk]; exact ha)
                        have hup : Hid (∀ v W, NodesAt W v ns → Calls Try.prog 28 #[v, .int .i64 (a : Int)] W (fun e w' => e = .returned (.int .i64 (q : Int)) ∧ W = w')) := Lib.hid (fun v W hv => (up_pos v ns a W hv hn hpos ha hw).mono (by
                          rintro e w' ⟨p, rfl, hp, rfl⟩
                          rw [par_uniq _ _ _ _ hp hq]
                          exact ⟨rfl, rfl⟩))
                        have hqn : q < ns.length := Nat.lt_trans hq.1 ha
                        have hpv := prev_of f f1 hz a q haf (by rw [f3]; exact hq)
                        rw [f3] at hpv
                        by_cases hk : (ns.getD q default).kind = 8
                        · by_cases hn2 : a = q + 1
                          · by_cases hm5 : m.kind = 5
                            · exact puts_k b off b2 off2 _ c _ c2 ns bs a q _ _ x y _ m.kind f'.flat w (Lib.hid h) (Lib.hid h2) (Lib.hid hf) (Lib.hid hf2) ha (Lib.hid hx') h0 (Lib.hid hy') h1 (Lib.hid dx) (Lib.hid dy) bx by' hd (Lib.hid ⟨hb, hc, rfl⟩) (Lib.hid hp) (Lib.hid p4) (Lib.hid p3) (Lib.hid hps) (Lib.hid hck) hcc hbl hup hqn _ (Lib.hid rfl) hk (Lib.hid hn2) hm5 (by rw [p6, if_neg (fun h => h.2 hm5)])
                            · exact puts_l b off b2 off2 _ c _ c2 ns bs a q _ _ x y _ m.kind f'.flat w (Lib.hid h) (Lib.hid h2) (Lib.hid hf) (Lib.hid hf2) ha (Lib.hid hx') h0 (Lib.hid hy') h1 (Lib.hid dx) (Lib.hid dy) bx by' hd (Lib.hid ⟨hb, hc, rfl⟩) (Lib.hid hp) (Lib.hid p4) (Lib.hid p3) (Lib.hid hps) (Lib.hid hck) hcc hbl hup hqn _ (Lib.hid rfl) hk (Lib.hid hn2) hm5 (by rw [p6, if_pos ⟨hpv.2 ⟨hk, hn2⟩, hm5⟩])
                          · exact puts_j b off b2 off2 _ c _ c2 ns bs a q _ _ x y _ m.kind f'.flat w (Lib.hid h) (Lib.hid h2) (Lib.hid hf) (Lib.hid hf2) ha (Lib.hid hx') h0 (Lib.hid hy') h1 (Lib.hid dx) (Lib.hid dy) bx by' hd (Lib.hid ⟨hb, hc, rfl⟩) (Lib.hid hp) (Lib.hid p4) (Lib.hid p3) (Lib.hid hps) (Lib.hid hck) hcc hbl hup hqn _ (Lib.hid rfl) hk (Lib.hid hn2) (by rw [p6, if_neg (fun h => hn2 (hpv.1 h.1).2)])
                        · exact puts_i b off b2 off2 _ c _ c2 ns bs a q _ _ x y _ m.kind f'.flat w (Lib.hid h) (Lib.hid h2) (Lib.hid hf) (Lib.hid hf2) ha (Lib.hid hx') h0 (Lib.hid hy') h1 (Lib.hid dx) (Lib.hid dy) bx by' hd (Lib.hid ⟨hb, hc, rfl⟩) (Lib.hid hp) (Lib.hid p4) (Lib.hid p3) (Lib.hid hps) (Lib.hid hck) hcc hbl hup hqn _ (Lib.hid rfl) hk (by rw [p6, if_neg (fun h => hk (hpv.1 h.1).1)])
                  · exact puts_f (some ⟨b, off, none⟩) (some ⟨b2, off2, none⟩) _ c _ c2 ns bs a _ _ x y w (Lib.hid h) (Lib.hid h2) (Lib.hid hf) (Lib.hid hf2) ha (Lib.hid hx') h0 (Lib.hid hy') h1 (Lib.hid dx) (Lib.hid dy) bx by' hd
            · obtain ⟨p, c, rfl⟩ := nodes_form h
              obtain ⟨p2, c2, rfl⟩ := nodes_form h2
              exact puts_e p p2 _ c _ c2 ns bs a x y w (Lib.hid h) (Lib.hid h2) (Lib.hid hf) (Lib.hid hf2) ha (Lib.hid hx) h0 (Lib.hid hy) h1
          · obtain ⟨p, c, rfl⟩ := nodes_form h
            obtain ⟨p2, c2, rfl⟩ := nodes_form h2
            exact puts_d p p2 _ c _ c2 ns bs a x w (Lib.hid h) (Lib.hid h2) (Lib.hid hf) (Lib.hid hf2) ha (Lib.hid hx) h0
end Go.Proofs.Ytgbggdghgdeohaa
