/- The walk of SynChecks. -/
import Derived.Test.YtgbggdghgdeohaaSynX
namespace Go.Proofs.Ytgbggdghgdeohaa
open Go.RowKit Go.Proofs.TreeMath
set_option maxRecDepth 100000 in
set_option maxHeartbeats 8000000 in
theorem checks_a (p : Option Addr) (n c : Nat) (ns : List Nd) (s : ByteArray) (w : World) (H : Hid (NodesAt w (.slice p n c) ns)) (FW : Hid (fewB ns = false)) :
    Calls Try.prog 3 #[.slice p n c, .string s] w (RB true w) := by
  have FEW := Lib.hid (fun W (hW : Below w.heap.size w W) => few_any _ ns W (H.out.below hW))
  rw [FW.out] at FEW
  go_enter Try.func3, Try.ntmps3
  go_wp2_with fail
  refine (awake_any _).mono ?_
  rintro e w1 ⟨rfl, b1⟩
  have B1 := Lib.hid b1
  clear b1
  go_wp2_with fail
  refine (FEW.out _ B1.out).mono ?_
  rintro e w2 ⟨rfl, rfl⟩
  go_wp2_with fail
  refine (awake_any _).mono ?_
  rintro e w3 ⟨rfl, b3⟩
  have B3 := Lib.hid (B1.out.trans (b3.mono B1.out.size))
  clear b3
  go_wp2_with fail
  go_ret
  exact ⟨rfl, B3.out⟩
set_option maxRecDepth 100000 in
set_option maxHeartbeats 8000000 in
theorem checks_s (p : Option Addr) (n c : Nat) (ns : List Nd) (s : ByteArray) (w : World) (H : Hid (NodesAt w (.slice p n c) ns)) (FW : Hid (fewB ns = true)) (hs : ¬ s.size ≤ 300) :
    Calls Try.prog 3 #[.slice p n c, .string s] w (RB true w) := by
  have FEW := Lib.hid (fun W (hW : Below w.heap.size w W) => few_any _ ns W (H.out.below hW))
  rw [FW.out] at FEW
  have gs : decide ((300 : Int) < (s.size : Int)) = true := by simp; omega
  go_enter Try.func3, Try.ntmps3
  go_wp2_with fail
  refine (awake_any _).mono ?_
  rintro e w1 ⟨rfl, b1⟩
  have B1 := Lib.hid b1
  clear b1
  go_wp2_with fail
  refine (FEW.out _ B1.out).mono ?_
  rintro e w2 ⟨rfl, rfl⟩
  go_wp2_with fail
  refine (awake_any _).mono ?_
  rintro e w3 ⟨rfl, b3⟩
  have B3 := Lib.hid (B1.out.trans (b3.mono B1.out.size))
  clear b3
  go_wp2_with fail
  go_ret
  exact ⟨rfl, B3.out⟩
set_option maxRecDepth 100000 in
set_option maxHeartbeats 8000000 in
theorem checks_b (p : Option Addr) (n c : Nat) (ns : List Nd) (s : ByteArray) (x y : Int) (w : World) (H : Hid (NodesAt w (.slice p n c) ns)) (FW : Hid (fewB ns = true)) (hs : s.size ≤ 300) (CX : Hid (CheckIs ns 0 x)) (CY : Hid (CheckIs ns 1 y)) :
    Calls Try.prog 3 #[.slice p n c, .string s] w (RB true w) := by
  have FEW := Lib.hid (fun W (hW : Below w.heap.size w W) => few_any _ ns W (H.out.below hW))
  rw [FW.out] at FEW
  have gs : decide ((300 : Int) < (s.size : Int)) = false := by simp; omega
  have HN : Hid (ns.length ≤ 1000000) := Lib.hid (by have := (few_yes FW.out).1; omega)
  have CHK := Lib.hid (fun v W (h : NodesAt W v ns) => Check_any v ns x W h (by have := (few_yes FW.out).1; omega) (few_yes FW.out).2 CX.out)
  have PAT := Lib.hid (fun v W (h : NodesAt W v ns) => Pat_any v ns y W h (by have := (few_yes FW.out).1; omega) (few_yes FW.out).2 CY.out)
  have RC := Lib.hid (fun W (hW : Below w.heap.size w W) => rcheck_any _ ns false x W (H.out.below hW) (by have := (few_yes FW.out).1; omega) (few_yes FW.out).2 CX.out)
  have RP := Lib.hid (fun W (hW : Below w.heap.size w W) => rcheck_any _ ns true y W (H.out.below hW) (by have := (few_yes FW.out).1; omega) (few_yes FW.out).2 CY.out)
  have NAM := Lib.hid (fun W => name_any s W hs)
  have CON := Lib.hid (fun W => con_any s W hs)
  have RNAM := Lib.hid (fun W => rname_any s W hs)
  have RCON := Lib.hid (fun W => rcon_any s W hs)
  obtain ⟨a, ha⟩ : ∃ a, a = nameB s := ⟨_, rfl⟩
  obtain ⟨b, hb⟩ : ∃ b, b = conB s := ⟨_, rfl⟩
  rw [← ha] at NAM RNAM
  rw [← hb] at CON RCON
  clear ha hb hs
  go_enter Try.func3, Try.ntmps3
  go_wp2_with fail
  refine (awake_any _).mono ?_
  rintro e w1 ⟨rfl, b1⟩
  have B1 := Lib.hid b1
  clear b1
  go_wp2_with fail
  refine (FEW.out _ B1.out).mono ?_
  rintro e w2 ⟨rfl, rfl⟩
  go_wp2_with fail
  refine (own_bel _ ns w _ H.out HN.out B1.out).mono ?_
  rintro e w3 ⟨v3, rfl, h3, b3⟩
  have B3 := Lib.hid (B1.out.trans (b3.mono B1.out.size))
  clear b3
  obtain ⟨p3, c3, rfl⟩ := nodes_form h3
  have H3 := Lib.hid h3
  clear h3
  go_wp2_with fail
  refine (CHK.out _ _ H3.out).mono ?_
  rintro e w4 ⟨rfl, b4⟩
  have B4 := Lib.hid (B3.out.trans (b4.mono B3.out.size))
  clear b4
  go_wp2_with fail
  refine (RC.out _ B4.out).mono ?_
  rintro e w5 ⟨rfl, b5⟩
  have B5 := Lib.hid (B4.out.trans (b5.mono B4.out.size))
  clear b5
  go_wp2_with fail
  refine (own_bel _ ns w _ H.out HN.out B5.out).mono ?_
  rintro e w6 ⟨v6, rfl, h6, b6⟩
  have B6 := Lib.hid (B5.out.trans (b6.mono B5.out.size))
  clear b6
  obtain ⟨p6, c6, rfl⟩ := nodes_form h6
  have H6 := Lib.hid h6
  clear h6
  go_wp2_with fail
  refine (PAT.out _ _ H6.out).mono ?_
  rintro e w7 ⟨rfl, b7⟩
  have B7 := Lib.hid (B6.out.trans (b7.mono B6.out.size))
  clear b7
  go_wp2_with fail
  refine (RP.out _ B7.out).mono ?_
  rintro e w8 ⟨rfl, b8⟩
  have B8 := Lib.hid (B7.out.trans (b8.mono B7.out.size))
  clear b8
  go_wp2_with fail
  refine (NAM.out _).mono ?_
  rintro e w9 ⟨rfl, b9⟩
  have B9 := Lib.hid (B8.out.trans (b9.mono B8.out.size))
  clear b9
  go_wp2_with fail
  refine (RNAM.out _).mono ?_
  rintro e w10 ⟨rfl, b10⟩
  have B10 := Lib.hid (B9.out.trans (b10.mono B9.out.size))
  clear b10
  go_wp2_with fail
  refine (CON.out _).mono ?_
  rintro e w11 ⟨rfl, b11⟩
  have B11 := Lib.hid (B10.out.trans (b11.mono B10.out.size))
  clear b11
  go_wp2_with fail
  refine (RCON.out _).mono ?_
  rintro e w12 ⟨rfl, b12⟩
  have B12 := Lib.hid (B11.out.trans (b12.mono B11.out.size))
  clear b12
  go_wp2_with fail
  go_ret
  exact ⟨rfl, B12.out⟩
theorem checks_walk (v : Value) (ns : List Nd) (s : ByteArray) (w : World) (h : NodesAt w v ns) : Calls Try.prog 3 #[v, .string s] w (RB true w) := by
  obtain ⟨p, c, rfl⟩ := nodes_form h
  cases hf : fewB ns with
  | false => exact checks_a p _ c ns s w (Lib.hid h) (Lib.hid hf)
  | true =>
    by_cases hs : s.size ≤ 300
    · obtain ⟨x, hx⟩ := check_ex ns 0
      obtain ⟨y, hy⟩ := check_ex ns 1
      exact checks_b p _ c ns s x y w (Lib.hid h) (Lib.hid hf) hs (Lib.hid hx) (Lib.hid hy)
    · exact checks_s p _ c ns s w (Lib.hid h) (Lib.hid hf) hs
end Go.Proofs.Ytgbggdghgdeohaa
