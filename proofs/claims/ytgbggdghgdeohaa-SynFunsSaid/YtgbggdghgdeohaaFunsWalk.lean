/- The walk of SynFuns. -/
import Derived.Test.YtgbggdghgdeohaaSynP
namespace Go.Proofs.Ytgbggdghgdeohaa
open Go.RowKit Go.Proofs.TreeMath
theorem SliceAt.below' {w w' : World} {size n : Nat} {v : Value} {cs : List Value} (h : SliceAt w size v n cs) (b : Below w.heap.size w w') : SliceAt w' size v n cs := h.below b
set_option maxRecDepth 100000 in
set_option maxHeartbeats 4000000 in
theorem funs_a (p : Option Addr) (n c : Nat) (ns : List Nd) (s : ByteArray) (w : World) (H : Hid (NodesAt w (.slice p n c) ns)) (FW : Hid (fewB ns = false)) :
    Calls Try.prog 6 #[.slice p n c, .string s] w (RB true w) := by
  have FEW := Lib.hid (fun W (hW : Below w.heap.size w W) => few_any _ ns W (H.out.below hW))
  rw [FW.out] at FEW
  go_enter Try.func6, Try.ntmps6
  go_wp2_with fail
  refine (awake_any _).mono ?_
  rintro e w1 ⟨rfl, b1⟩
  have B1 := Lib.hid b1
  clear b1
  go_wp2_with fail
  refine (FEW.out _ B1.out).mono ?_
  rintro e w2 ⟨rfl, rfl⟩
  go_wp2_with fail
  refine (awake_any _).mono ?_
  rintro e w3 ⟨rfl, b3⟩
  have B3 := Lib.hid (B1.out.trans (b3.mono B1.out.size))
  clear b3
  go_wp2_with fail
  go_ret
  exact ⟨rfl, B3.out⟩
set_option maxRecDepth 100000 in
set_option maxHeartbeats 4000000 in
theorem funs_s (p : Option Addr) (n c : Nat) (ns : List Nd) (s : ByteArray) (w : World) (H : Hid (NodesAt w (.slice p n c) ns)) (FW : Hid (fewB ns = true)) (hs : ¬ s.size ≤ 300) :
    Calls Try.prog 6 #[.slice p n c, .string s] w (RB true w) := by
  have FEW := Lib.hid (fun W (hW : Below w.heap.size w W) => few_any _ ns W (H.out.below hW))
  rw [FW.out] at FEW
  have gs : decide ((300 : Int) < (s.size : Int)) = true := by simp; omega
  go_enter Try.func6, Try.ntmps6
  go_wp2_with fail
  refine (awake_any _).mono ?_
  rintro e w1 ⟨rfl, b1⟩
  have B1 := Lib.hid b1
  clear b1
  go_wp2_with fail
  refine (FEW.out _ B1.out).mono ?_
  rintro e w2 ⟨rfl, rfl⟩
  go_wp2_with fail
  refine (awake_any _).mono ?_
  rintro e w3 ⟨rfl, b3⟩
  have B3 := Lib.hid (B1.out.trans (b3.mono B1.out.size))
  clear b3
  go_wp2_with fail
  go_ret
  exact ⟨rfl, B3.out⟩
set_option maxRecDepth 100000 in
set_option maxHeartbeats 4000000 in
theorem funs_b (p : Option Addr) (n c : Nat) (ns : List Nd) (s : ByteArray) (x : Int) (w : World) (H : Hid (NodesAt w (.slice p n c) ns)) (FW : Hid (fewB ns = true)) (hs : s.size ≤ 300) (CX : Hid (CheckIs ns 0 x)) (h0 : ¬ x = 0) :
    Calls Try.prog 6 #[.slice p n c, .string s] w (RB true w) := by
  have FEW := Lib.hid (fun W (hW : Below w.heap.size w W) => few_any _ ns W (H.out.below hW))
  rw [FW.out] at FEW
  have gs : decide ((300 : Int) < (s.size : Int)) = false := by simp; omega
  have HN : Hid (ns.length ≤ 1000000) := Lib.hid (by have := (few_yes FW.out).1; omega)
  have CHK := Lib.hid (fun v W (h : NodesAt W v ns) => Check_any v ns x W h (by have := (few_yes FW.out).1; omega) (few_yes FW.out).2 CX.out)
  have g0 : (x != 0) = true := by simpa using h0
  clear h0 hs
  go_enter Try.func6, Try.ntmps6
  go_wp2_with fail
  refine (awake_any _).mono ?_
  rintro e w1 ⟨rfl, b1⟩
  have B1 := Lib.hid b1
  clear b1
  go_wp2_with fail
  refine (FEW.out _ B1.out).mono ?_
  rintro e w2 ⟨rfl, rfl⟩
  go_wp2_with fail
  refine (own_bel _ ns w _ H.out HN.out B1.out).mono ?_
  rintro e w3 ⟨v3, rfl, h3, b3⟩
  have B3 := Lib.hid (B1.out.trans (b3.mono B1.out.size))
  clear b3
  obtain ⟨p3, c3, rfl⟩ := nodes_form h3
  have H3 := Lib.hid h3
  clear h3
  go_wp2_with fail
  refine (CHK.out _ _ H3.out).mono ?_
  rintro e w4 ⟨rfl, b4⟩
  have B4 := Lib.hid (B3.out.trans (b4.mono B3.out.size))
  clear b4
  go_wp2_with fail
  refine (awake_any _).mono ?_
  rintro e w5 ⟨rfl, b5⟩
  have B5 := Lib.hid (B4.out.trans (b5.mono B4.out.size))
  clear b5
  go_wp2_with fail
  go_ret
  exact ⟨rfl, B5.out⟩
set_option maxRecDepth 100000 in
set_option maxHeartbeats 4000000 in
theorem funs_d (p : Option Addr) (n c : Nat) (ns : List Nd) (s : ByteArray) (x : Int) (w : World) (H : Hid (NodesAt w (.slice p n c) ns)) (FW : Hid (fewB ns = true)) (hs : s.size ≤ 300) (CX : Hid (CheckIs ns 0 x)) (h0 : x = 0) (hd : ¬ deepI (kk ns) ≤ 90) :
    Calls Try.prog 6 #[.slice p n c, .string s] w (RB true w) := by
  have FEW := Lib.hid (fun W (hW : Below w.heap.size w W) => few_any _ ns W (H.out.below hW))
  rw [FW.out] at FEW
  have gs : decide ((300 : Int) < (s.size : Int)) = false := by simp; omega
  have HN : Hid (ns.length ≤ 1000000) := Lib.hid (by have := (few_yes FW.out).1; omega)
  have CHK := Lib.hid (fun v W (h : NodesAt W v ns) => Check_any v ns x W h (by have := (few_yes FW.out).1; omega) (few_yes FW.out).2 CX.out)
  have DP := Lib.hid (fun v W (h : NodesAt W v ns) => deep_any v ns W h HN.out)
  subst h0
  have gd : decide ((90 : Int) < (deepI (kk ns) : Int)) = true := by simp; omega
  have gd2 : decide (90 < deepI (kk ns)) = true := by simp; omega
  clear hs hd
  go_enter Try.func6, Try.ntmps6
  go_wp2_with fail
  refine (awake_any _).mono ?_
  rintro e w1 ⟨rfl, b1⟩
  have B1 := Lib.hid b1
  clear b1
  go_wp2_with fail
  refine (FEW.out _ B1.out).mono ?_
  rintro e w2 ⟨rfl, rfl⟩
  go_wp2_with fail
  refine (own_bel _ ns w _ H.out HN.out B1.out).mono ?_
  rintro e w3 ⟨v3, rfl, h3, b3⟩
  have B3 := Lib.hid (B1.out.trans (b3.mono B1.out.size))
  clear b3
  obtain ⟨p3, c3, rfl⟩ := nodes_form h3
  have H3 := Lib.hid h3
  clear h3
  go_wp2_with fail
  refine (CHK.out _ _ H3.out).mono ?_
  rintro e w4 ⟨rfl, b4⟩
  have B4 := Lib.hid (B3.out.trans (b4.mono B3.out.size))
  clear b4
  go_wp2_with fail
  refine (own_bel _ ns w _ H.out HN.out B4.out).mono ?_
  rintro e w5 ⟨v5, rfl, h5, b5⟩
  have B5 := Lib.hid (B4.out.trans (b5.mono B4.out.size))
  clear b5
  obtain ⟨p5, c5, rfl⟩ := nodes_form h5
  have H5 := Lib.hid h5
  clear h5
  go_wp2_with fail
  refine (DP.out _ _ H5.out).mono ?_
  rintro e w6 ⟨_, rfl, rfl, b6⟩
  have B6 := Lib.hid (B5.out.trans (b6.mono B5.out.size))
  clear b6
  go_wp2_with fail
  refine (awake_any _).mono ?_
  rintro e w7 ⟨rfl, b7⟩
  have B7 := Lib.hid (B6.out.trans (b7.mono B6.out.size))
  clear b7
  go_wp2_with fail
  go_ret
  exact ⟨rfl, B7.out⟩
set_option maxRecDepth 100000 in
set_option maxHeartbeats 4000000 in
theorem funs_e (p : Option Addr) (n c : Nat) (ns : List Nd) (s : ByteArray) (x y : Int) (fs : List ByteArray) (w : World) (H : Hid (NodesAt w (.slice p n c) ns)) (FW : Hid (fewB ns = true)) (hs : s.size ≤ 300) (CX : Hid (CheckIs ns 0 x)) (h0 : x = 0) (hd : deepI (kk ns) ≤ 90) (NB : Hid (nameB s = false)) (CY : Hid (CheckIs (⟨5, s, 0, 1⟩ :: ns) 0 y)) (hy : y = 62) (FY : Hid (FreeIs (⟨5, s, 0, 1⟩ :: ns) fs)) (hf : fs = []) :
    Calls Try.prog 6 #[.slice p n c, .string s] w (RB true w) := by
  have FEW := Lib.hid (fun W (hW : Below w.heap.size w W) => few_any _ ns W (H.out.below hW))
  rw [FW.out] at FEW
  have gs : decide ((300 : Int) < (s.size : Int)) = false := by simp; omega
  have HN : Hid (ns.length ≤ 1000000) := Lib.hid (by have := (few_yes FW.out).1; omega)
  have CHK := Lib.hid (fun v W (h : NodesAt W v ns) => Check_any v ns x W h (by have := (few_yes FW.out).1; omega) (few_yes FW.out).2 CX.out)
  have DP := Lib.hid (fun v W (h : NodesAt W v ns) => deep_any v ns W h HN.out)
  subst h0
  have gd : decide ((90 : Int) < (deepI (kk ns) : Int)) = false := by simp; omega
  have gd2 : decide (90 < deepI (kk ns)) = false := by simp; omega
  have MK : Hid (∀ v W, ListsAt W v [ns] → Calls Try.prog 26 #[.agg #[.int .i64 5, .string s, .int .i64 0, .int .i64 0], v] W (NRet W (⟨5, s, 0, 1⟩ :: ns))) := Lib.hid (fun v W hL => by
    have := make_any ⟨5, s, 0, 0⟩ v [ns] W hL ⟨by simp, by have := (few_yes FW.out).1; simp; omega⟩
    rw [make_one] at this
    exact this)
  have NAM := Lib.hid (fun W => name_any s W hs)
  rw [NB.out] at NAM
  have TF : Hid (Tx (⟨5, s, 0, 1⟩ :: ns) ∧ (⟨5, s, 0, 1⟩ :: ns : List Nd).length ≤ 100000) := Lib.hid ⟨fun y hy => by
    rcases List.mem_cons.1 hy with rfl | hy
    · exact hs
    · exact (few_yes FW.out).2 y hy, by have := (few_yes FW.out).1; simp; omega⟩
  have HF1 : Hid ((⟨5, s, 0, 1⟩ :: ns : List Nd).length ≤ 1000000) := Lib.hid (by have := TF.out.2; omega)
  have CF := Lib.hid (fun v W (h : NodesAt W v (⟨5, s, 0, 1⟩ :: ns)) => Check_any v _ y W h TF.out.2 TF.out.1 CY.out)
  have FR := Lib.hid (fun v W (h : NodesAt W v (⟨5, s, 0, 1⟩ :: ns)) => Free_any v _ fs W h TF.out.2 TF.out.1 FY.out)
  generalize deepI (kk ns) = D at *
  clear hs hd
  subst hy
  subst hf
  go_enter Try.func6, Try.ntmps6
  go_wp2_with fail
  refine (awake_any _).mono ?_
  rintro e w1 ⟨rfl, b1⟩
  have B1 := Lib.hid b1
  clear b1
  go_wp2_with fail
  refine (FEW.out _ B1.out).mono ?_
  rintro e w2 ⟨rfl, rfl⟩
  go_wp2_with fail
  refine (own_bel _ ns w _ H.out HN.out B1.out).mono ?_
  rintro e w3 ⟨v3, rfl, h3, b3⟩
  have B3 := Lib.hid (B1.out.trans (b3.mono B1.out.size))
  clear b3
  obtain ⟨p3, c3, rfl⟩ := nodes_form h3
  have H3 := Lib.hid h3
  clear h3
  go_wp2_with fail
  refine (CHK.out _ _ H3.out).mono ?_
  rintro e w4 ⟨rfl, b4⟩
  have B4 := Lib.hid (B3.out.trans (b4.mono B3.out.size))
  clear b4
  go_wp2_with fail
  refine (own_bel _ ns w _ H.out HN.out B4.out).mono ?_
  rintro e w5 ⟨v5, rfl, h5, b5⟩
  have B5 := Lib.hid (B4.out.trans (b5.mono B4.out.size))
  clear b5
  obtain ⟨p5, c5, rfl⟩ := nodes_form h5
  have H5 := Lib.hid h5
  clear h5
  go_wp2_with fail
  refine (DP.out _ _ H5.out).mono ?_
  rintro e w6 ⟨_, rfl, rfl, b6⟩
  have B6 := Lib.hid (B5.out.trans (b6.mono B5.out.size))
  clear b6
  go_wp2_with fail
  refine (own_bel _ ns w _ H.out HN.out B6.out).mono ?_
  rintro e w7 ⟨v7, rfl, h7, b7⟩
  have B7 := Lib.hid (B6.out.trans (b7.mono B6.out.size))
  clear b7
  obtain ⟨p7, c7, rfl⟩ := nodes_form h7
  have H7 := Lib.hid h7
  clear h7
  have L7 := Lib.hid (lists_lit w7 [.slice p7 ns.length c7] 22 [ns] rfl (by simp [maxLen]) (fun i hi => by match i, hi with | 0, _ => exact H7.out))
  have BA7 := Lib.hid (B7.out.alloc B7.out.size (.cells #[.slice p7 ns.length c7] 22))
  go_wp2_with fail
  refine (MK.out _ _ L7.out).mono ?_
  rintro e w8 ⟨v8, rfl, h8, b8⟩
  have B8 := Lib.hid (BA7.out.trans (b8.mono BA7.out.size))
  clear b8
  obtain ⟨p8, c8, rfl⟩ := nodes_form h8
  have H8 := Lib.hid h8
  clear h8
  go_wp2_with fail
  refine (NAM.out _).mono ?_
  rintro e w9 ⟨rfl, b9⟩
  have H8_9 := Lib.hid (H8.out.below b9)
  have B9 := Lib.hid (B8.out.trans (b9.mono B8.out.size))
  clear b9
  go_wp2_with fail
  refine (CF.out _ _ H8_9.out).mono ?_
  rintro e w10 ⟨rfl, b10⟩
  have H8_10 := Lib.hid (H8_9.out.below b10)
  have B10 := Lib.hid (B9.out.trans (b10.mono B9.out.size))
  clear b10
  go_wp2_with fail
  refine (FR.out _ _ H8_10.out).mono ?_
  rintro e w11 ⟨v11, rfl, h11, b11⟩
  have B11 := Lib.hid (B10.out.trans (b11.mono B10.out.size))
  clear b11
  obtain ⟨p11, c11, rfl⟩ := strs_form h11
  clear h11
  go_wp2_with fail
  go_ret
  exact ⟨rfl, B11.out⟩
set_option maxRecDepth 100000 in
set_option maxHeartbeats 4000000 in
theorem funs_f (p : Option Addr) (n c : Nat) (ns : List Nd) (s : ByteArray) (x y : Int) (fs ss : List ByteArray) (w : World) (H : Hid (NodesAt w (.slice p n c) ns)) (FW : Hid (fewB ns = true)) (hs : s.size ≤ 300) (CX : Hid (CheckIs ns 0 x)) (h0 : x = 0) (hd : deepI (kk ns) ≤ 90) (NB : Hid (nameB s = true)) (CY : Hid (CheckIs (⟨5, s, 0, 1⟩ :: ns) 0 y)) (hy : y = 0) (FX : Hid (FreeIs ns ss)) (FLEN : Hid (ss.length ≤ 1000000)) (FY : Hid (FreeIs (⟨5, s, 0, 1⟩ :: ns) fs)) (hf : fs = ss.filter fun x => !decide (s = x)) :
    Calls Try.prog 6 #[.slice p n c, .string s] w (RB true w) := by
  have FEW := Lib.hid (fun W (hW : Below w.heap.size w W) => few_any _ ns W (H.out.below hW))
  rw [FW.out] at FEW
  have gs : decide ((300 : Int) < (s.size : Int)) = false := by simp; omega
  have HN : Hid (ns.length ≤ 1000000) := Lib.hid (by have := (few_yes FW.out).1; omega)
  have CHK := Lib.hid (fun v W (h : NodesAt W v ns) => Check_any v ns x W h (by have := (few_yes FW.out).1; omega) (few_yes FW.out).2 CX.out)
  have DP := Lib.hid (fun v W (h : NodesAt W v ns) => deep_any v ns W h HN.out)
  subst h0
  have FX2 := Lib.hid (fun v W (h : NodesAt W v ns) => Free_any v ns ss W h (by have := (few_yes FW.out).1; omega) (few_yes FW.out).2 FX.out)
  have gd : decide ((90 : Int) < (deepI (kk ns) : Int)) = false := by simp; omega
  have gd2 : decide (90 < deepI (kk ns)) = false := by simp; omega
  have MK : Hid (∀ v W, ListsAt W v [ns] → Calls Try.prog 26 #[.agg #[.int .i64 5, .string s, .int .i64 0, .int .i64 0], v] W (NRet W (⟨5, s, 0, 1⟩ :: ns))) := Lib.hid (fun v W hL => by
    have := make_any ⟨5, s, 0, 0⟩ v [ns] W hL ⟨by simp, by have := (few_yes FW.out).1; simp; omega⟩
    rw [make_one] at this
    exact this)
  have NAM := Lib.hid (fun W => name_any s W hs)
  rw [NB.out] at NAM
  have TF : Hid (Tx (⟨5, s, 0, 1⟩ :: ns) ∧ (⟨5, s, 0, 1⟩ :: ns : List Nd).length ≤ 100000) := Lib.hid ⟨fun y hy => by
    rcases List.mem_cons.1 hy with rfl | hy
    · exact hs
    · exact (few_yes FW.out).2 y hy, by have := (few_yes FW.out).1; simp; omega⟩
  have HF1 : Hid ((⟨5, s, 0, 1⟩ :: ns : List Nd).length ≤ 1000000) := Lib.hid (by have := TF.out.2; omega)
  have CF := Lib.hid (fun v W (h : NodesAt W v (⟨5, s, 0, 1⟩ :: ns)) => Check_any v _ y W h TF.out.2 TF.out.1 CY.out)
  have FR := Lib.hid (fun v W (h : NodesAt W v (⟨5, s, 0, 1⟩ :: ns)) => Free_any v _ fs W h TF.out.2 TF.out.1 FY.out)
  generalize deepI (kk ns) = D at *
  clear hs hd
  subst hy
  subst hf
  go_enter Try.func6, Try.ntmps6
  go_wp2_with fail
  refine (awake_any _).mono ?_
  rintro e w1 ⟨rfl, b1⟩
  have B1 := Lib.hid b1
  clear b1
  go_wp2_with fail
  refine (FEW.out _ B1.out).mono ?_
  rintro e w2 ⟨rfl, rfl⟩
  go_wp2_with fail
  refine (own_bel _ ns w _ H.out HN.out B1.out).mono ?_
  rintro e w3 ⟨v3, rfl, h3, b3⟩
  have B3 := Lib.hid (B1.out.trans (b3.mono B1.out.size))
  clear b3
  obtain ⟨p3, c3, rfl⟩ := nodes_form h3
  have H3 := Lib.hid h3
  clear h3
  go_wp2_with fail
  refine (CHK.out _ _ H3.out).mono ?_
  rintro e w4 ⟨rfl, b4⟩
  have B4 := Lib.hid (B3.out.trans (b4.mono B3.out.size))
  clear b4
  go_wp2_with fail
  refine (own_bel _ ns w _ H.out HN.out B4.out).mono ?_
  rintro e w5 ⟨v5, rfl, h5, b5⟩
  have B5 := Lib.hid (B4.out.trans (b5.mono B4.out.size))
  clear b5
  obtain ⟨p5, c5, rfl⟩ := nodes_form h5
  have H5 := Lib.hid h5
  clear h5
  go_wp2_with fail
  refine (DP.out _ _ H5.out).mono ?_
  rintro e w6 ⟨_, rfl, rfl, b6⟩
  have B6 := Lib.hid (B5.out.trans (b6.mono B5.out.size))
  clear b6
  go_wp2_with fail
  refine (own_bel _ ns w _ H.out HN.out B6.out).mono ?_
  rintro e w7 ⟨v7, rfl, h7, b7⟩
  have B7 := Lib.hid (B6.out.trans (b7.mono B6.out.size))
  clear b7
  obtain ⟨p7, c7, rfl⟩ := nodes_form h7
  have H7 := Lib.hid h7
  clear h7
  have L7 := Lib.hid (lists_lit w7 [.slice p7 ns.length c7] 22 [ns] rfl (by simp [maxLen]) (fun i hi => by match i, hi with | 0, _ => exact H7.out))
  have BA7 := Lib.hid (B7.out.alloc B7.out.size (.cells #[.slice p7 ns.length c7] 22))
  go_wp2_with fail
  refine (MK.out _ _ L7.out).mono ?_
  rintro e w8 ⟨v8, rfl, h8, b8⟩
  have B8 := Lib.hid (BA7.out.trans (b8.mono BA7.out.size))
  clear b8
  obtain ⟨p8, c8, rfl⟩ := nodes_form h8
  have H8 := Lib.hid h8
  clear h8
  go_wp2_with fail
  refine (NAM.out _).mono ?_
  rintro e w9 ⟨rfl, b9⟩
  have H8_9 := Lib.hid (H8.out.below b9)
  have B9 := Lib.hid (B8.out.trans (b9.mono B8.out.size))
  clear b9
  have bz : Below w9.heap.size w9 (w9.alloc (.cells #[] 9)) := (Below.refl _ _).alloc (Nat.le_refl _) _
  have BZ := Lib.hid (B9.out.trans (bz.mono B9.out.size))
  have HZ_f := Lib.hid (H8_9.out.below bz)
  have RZ := Lib.hid (show SRow w9.heap.size (w9.alloc (.cells #[] 9)) (.slice (some ⟨w9.heap.size, 0, none⟩) 0 0) [] from World.ownsRow_made w9 #[] 0 (Nat.le_refl _) (by simp [maxLen]) rfl)
  have BASE : Hid (w9.heap.size ≤ (w9.alloc (.cells #[] 9)).heap.size) := Lib.hid (by simp)
  have BK := Lib.hid bz
  have HZ0 : Hid ((w9.alloc (.cells #[] 9)).heap[w9.heap.size]? = some (.cells #[] 9 (0, 0))) := Lib.hid (by show (w9.heap.push _)[w9.heap.size]? = _; simp)
  clear bz
  go_wp2_with fail
  refine (own_bel _ ns w _ H.out HN.out BZ.out).mono ?_
  rintro e w10 ⟨v10, rfl, h10, b10⟩
  have HF_10 := Lib.hid (HZ_f.out.below b10)
  have RZ_10 := Lib.hid (RZ.out.after b10)
  have BB10 := Lib.hid (show w9.heap.size ≤ w10.heap.size from Nat.le_trans BASE.out b10.size)
  have B10 := Lib.hid (BZ.out.trans (b10.mono BZ.out.size))
  have BK10 := Lib.hid (BK.out.trans (b10.mono BASE.out))
  have HZ10 := Lib.hid ((b10.block _ (lt_of_heap HZ0.out)).trans HZ0.out)
  clear b10
  obtain ⟨p10, c10, rfl⟩ := nodes_form h10
  have H10 := Lib.hid h10
  clear h10
  go_wp2_with fail
  refine (FX2.out _ _ H10.out).mono ?_
  rintro e w11 ⟨v11, rfl, h11, b11⟩
  have HF_11 := Lib.hid (HF_10.out.below b11)
  have RZ_11 := Lib.hid (RZ_10.out.after b11)
  have BB11 := Lib.hid (show w9.heap.size ≤ w11.heap.size from Nat.le_trans BB10.out b11.size)
  have B11 := Lib.hid (B10.out.trans (b11.mono B10.out.size))
  have BK11 := Lib.hid (BK10.out.trans (b11.mono BB10.out))
  have HZ11 := Lib.hid ((b11.block _ (lt_of_heap HZ10.out)).trans HZ10.out)
  clear b11
  have HSS := Lib.hid h11
  obtain ⟨_, ap, ac, rfl, _, _, ha11⟩ := h11
  have HA := Lib.hid ha11
  clear ha11
  obtain ⟨i0, hi0, hz0, hz1, hz2⟩ := infoStr
  have HI := Lib.hid (And.intro hi0 (And.intro hz0 (And.intro hz1 hz2)))
  clear hi0 hz0 hz1 hz2
  obtain ⟨A, hA⟩ : ∃ A, A = ss.length := ⟨_, rfl⟩
  have hA2 : A ≤ 9223372036854775807 := by have := HSS.out.le; unfold maxLen at this; omega
  have hA3 : A ≤ 1000000 := by rw [hA]; exact FLEN.out
  rw [← hA] at HA ⊢
  have HAL := Lib.hid hA
  clear hA
  go_wp2_with fail
  go_loopw [6, 8] (fun s6 s8 wr => ∃ (j : Nat) (wv : Value), wv = s6 ∧ j ≤ A ∧ s8 = .int .i64 (j : Int) ∧ SRow w9.heap.size wr wv ((ss.take j).filter fun x => !decide (s = x)) ∧ Below w9.heap.size w11 wr ∧ w9.heap.size ≤ wr.heap.size ∧ (A ≠ 0 → ∃ b off, ap = some ⟨b, off, none⟩ ∧ b < wr.heap.size ∧ CellsIn wr b off (strCells ss) ∧ wv.ownBlock ≠ some b)) (fun _ s8 _ => A - (intOf s8).toNat)
  case atStart =>
    refine ⟨0, _, rfl, Nat.zero_le _, rfl, RZ_11.out, Below.refl _ _, BB11.out, fun h0 => ?_⟩
    obtain ⟨b, off, e1, e2, e3⟩ := HA.out h0
    refine ⟨b, off, e1, e2, e3, fun e => ?_⟩
    have hb : w9.heap.size = b := by simpa [Value.ownBlock] using e
    have := e3.str 0 (by rw [← HAL.out]; omega)
    rw [← hb, Lib.cell_of_heap HZ11.out] at this
    simp at this
  case round =>
    obtain ⟨wo, hwo⟩ : ∃ wo : World, wo = wr := ⟨_, rfl⟩
    subst hwo
    obtain ⟨j, wv, rfl, hj, rfl, hrow, hbl, hwsz, hap⟩ := hrel
    have ROW := Lib.hid hrow
    have BL := Lib.hid hbl
    have AP := Lib.hid hap
    clear hrow hbl hap
    by_cases h1 : j < A
    · obtain ⟨b, off, rfl, hb, hc, hne⟩ := AP.out (by omega)
      have hjl : j < ss.length := by rw [← HAL.out]; exact h1
      have c0 := hc.str j hjl
      have TK := Lib.hid (take_str ss j hjl)
      have LEN : Hid (((ss.take j).filter fun x => !decide (s = x)).length ≤ 1000000) := Lib.hid (Nat.le_trans (List.length_filter_le _ _) (by rw [List.length_take]; omega))
      have HC := Lib.hid (And.intro hb (And.intro hc hne))
      obtain ⟨t, ht⟩ : ∃ t, t = ss.getD j default := ⟨_, rfl⟩
      rw [← ht] at c0 TK
      have hltz : ((j : Int) < (A : Int)) := by omega
      clear ht hjl hc hne
      by_cases hts : t = s
      · subst hts
        have FE : Hid (((ss.take (j + 1)).filter fun x => !decide (t = x)) = (ss.take j).filter fun x => !decide (t = x)) := Lib.hid (by rw [TK.out, List.filter_append]; simp)
        go_wp2
        go_roundw
        case rel => exact ⟨j + 1, _, rfl, h1, by go_num, by rw [FE.out]; exact ROW.out, BL.out, hwsz, AP.out⟩
        case measure => simp [intOf]; omega
      · have g1 := text_ne hts
        have g2 : (t.toList == s.toList) = false := by simpa using g1
        have g3 : (t.toList != s.toList) = true := by simpa using g1
        have FE : Hid (((ss.take (j + 1)).filter fun x => !decide (s = x)) = ((ss.take j).filter fun x => !decide (s = x)) ++ [t]) := Lib.hid (by
          rw [TK.out, List.filter_append]
          have hst : ¬ s = t := fun e => hts e.symm
          simp [hst])
        have bo : Below wo.heap.size wo (wo.alloc (.cells #[.string t] 9)) := (Below.refl _ _).alloc (Nat.le_refl _) _
        have R1 := Lib.hid (ROW.out.after bo)
        have BO := Lib.hid (BL.out.alloc hwsz (.cells #[.string t] 9))
        have S1 : Hid (w9.heap.size ≤ (wo.alloc (.cells #[.string t] 9)).heap.size) := Lib.hid (by simp; omega)
        unfold SRow at R1
        clear hts bo
        go_wp2_with (first
          | (at_builtin; refine wpList_append_own_at _ rfl _ _ 31 rfl w9.heap.size 9 i0 (.string ByteArray.empty) 1 16 Try.underlying31 HI.out.1 HI.out.2.1 HI.out.2.2.1 HI.out.2.2.2 rfl (by decide) _ _ _ rfl R1.out ⟨wo.heap.size, 0, none⟩ 1 1 [.string t] rfl rfl (cell_one_new _ _ _) (strCells_one [t]) (by have := LEN.out; unfold maxLen; omega) (by have := LEN.out; omega) S1.out ?_; intro v' w3 hown' hgrow hnil hloc; have HLOC := Lib.hid hloc; have HO3 := Lib.hid hown'; have HG3 := Lib.hid hgrow; clear hown' hgrow hnil hloc)
          | go_in)
        go_roundw
        case rel =>
          have hsz := HG3.out.size
          simp at hsz
          refine ⟨j + 1, _, rfl, h1, by go_num, ?_, BO.out.grown HG3.out S1.out (fun q hq => (World.ownsRow.there R1.out hq).1), by omega, fun _ => ⟨b, off, rfl, by omega, ?_, ?_⟩⟩
          · rw [FE.out]
            unfold SRow
            rw [List.length_append, strCells_append]
            exact HO3.out
          · obtain ⟨x1, x2, x3⟩ := HC.out
            exact x2.kept ((HG3.out.block b (by simp; omega) (fun e => x3 e.symm)).trans (Below.heap_alloc _ _ _ x1))
          · obtain ⟨x1, x2, x3⟩ := HC.out
            rcases HLOC.out with e | e
            · rw [e]; exact x3
            · rw [e]
              intro e2
              have := Option.some.inj e2
              simp at this
              omega
        case measure => simp [intOf]; omega
    · obtain rfl : j = A := by omega
      have hfull : (ss.take j) = ss := List.take_of_length_le (by rw [← HAL.out]; exact Nat.le_refl _)
      have WANT := Lib.hid (ROW.out.at)
      rw [hfull] at WANT
      have BWO := Lib.hid (B11.out.trans (BL.out.mono B9.out.size))
      have HFO : Hid (NodesAt wo _ (⟨5, s, 0, 1⟩ :: ns)) := Lib.hid (SliceAt.below' H8_9.out (BK11.out.trans BL.out))
      clear AP hfull
      go_wp2_with fail
      refine (own_any _ _ _ HFO.out HF1.out).mono ?_
      rintro e x1 ⟨u1, rfl, f1, y1⟩
      obtain ⟨p1, c1, rfl⟩ := nodes_form f1
      have F1 := Lib.hid f1
      have HFO1 := Lib.hid (HFO.out.below y1)
      have WANT1 := Lib.hid (WANT.out.below y1)
      have Y1 := Lib.hid (BWO.out.trans (y1.mono BWO.out.size))
      clear f1 y1
      go_wp2_with fail
      refine (CF.out _ _ F1.out).mono ?_
      rintro e x2 ⟨rfl, y2⟩
      have HFO2 := Lib.hid (HFO1.out.below y2)
      have WANT2 := Lib.hid (WANT1.out.below y2)
      have Y2 := Lib.hid (Y1.out.trans (y2.mono Y1.out.size))
      clear y2
      go_wp2_with fail
      refine (FR.out _ _ HFO2.out).mono ?_
      rintro e x3 ⟨u3, rfl, f3, y3⟩
      have F3 := Lib.hid f3
      have WANT3 := Lib.hid (WANT2.out.below y3)
      have Y3 := Lib.hid (Y2.out.trans (y3.mono Y2.out.size))
      clear f3 y3
      go_wp2_with fail
      refine (same_any _ _ _ _ F3.out WANT3.out).mono ?_
      rintro e x4 ⟨rfl, y4⟩
      have Y4 := Lib.hid (Y3.out.trans (y4.mono Y3.out.size))
      clear y4
      go_wp2_with fail
      go_ret
      exact ⟨rfl, Y4.out⟩
theorem freeK_len (f : F) : ∀ kind txt i names, (freeK f kind txt i names).length ≤ f.sz := by
  induction f with
  | nil => intros; exact Nat.le_refl _
  | cons n k r hk hr =>
    intro kind txt i names
    simp only [F.sz]
    by_cases h : kind = 10 ∧ i % 2 = 1
    · rw [freeK_pat _ _ _ _ _ _ _ h]
      have := hr kind txt (i + 1) (varsF (.cons n k .nil))
      omega
    · rw [freeK_exp _ _ _ _ _ _ _ h, List.length_append]
      have a := hr kind txt (i + 1) (if bindsB kind i then [txt] else names)
      have b : (lessL (freeT n k) (if bindsB kind i then [txt] else names)).length ≤ (freeT n k).length := List.length_filter_le _ _
      have c : (freeT n k).length ≤ 1 + k.sz := by
        unfold freeT
        rw [List.length_append]
        have := hk n.kind n.text 0 []
        split <;> simp <;> omega
      omega
theorem funs_walk (v : Value) (ns : List Nd) (s : ByteArray) (w : World) (h : NodesAt w v ns) : Calls Try.prog 6 #[v, .string s] w (RB true w) := by
  obtain ⟨p, c, rfl⟩ := nodes_form h
  cases hf : fewB ns with
  | false => exact funs_a p _ c ns s w (Lib.hid h) (Lib.hid hf)
  | true =>
    by_cases hs : s.size ≤ 300
    · obtain ⟨x, hx⟩ := check_ex ns 0
      by_cases h0 : x = 0
      · by_cases hd : deepI (kk ns) ≤ 90
        · have hx' := hx
          rcases hx with ⟨_, e⟩ | ⟨f, h1, h2, h3, h4⟩
          · rw [e] at h0; cases h0
          · have hz : synE f 0 = 0 := by rw [← h4, h0]
            have hd' := hd
            rw [← h3, deep_flat f h1 h2] at hd'
            have hl : f.sz ≤ 120 := by rw [← F.flat_length, h3]; exact (few_yes hf).1
            have hfs := fun_syn s f hz hl hd'
            have hok : (F.cons ⟨5, s, 0, 1⟩ f .nil).ok := ⟨by rw [h2]; rfl, h1, trivial⟩
            have hck : CheckIs (⟨5, s, 0, 1⟩ :: ns) 0 (synE (.cons ⟨5, s, 0, 1⟩ f .nil) 0) := .inr ⟨.cons ⟨5, s, 0, 1⟩ f .nil, hok, rfl, by rw [one_flat, h3], rfl⟩
            cases hn : nameB s with
            | false =>
              rw [hn] at hfs
              exact funs_e p _ c ns s x _ [] w (Lib.hid h) (Lib.hid hf) hs (Lib.hid hx') h0 hd (Lib.hid hn) (Lib.hid hck) hfs (Lib.hid (.inl ⟨_, hck, by rw [hfs]; decide, rfl⟩)) rfl
            | true =>
              rw [hn] at hfs
              obtain ⟨n, k, rfl⟩ := one_of f h2
              have hss : FreeIs ns (addAll [] (freeT n k)) := .inr ⟨n, k, h1.1, h1.2.1, by rw [← h3, one_flat], hz, rfl⟩
              have hlen : (addAll [] (freeT n k)).length ≤ 1000000 := by
                have a := (addAll_len (freeT n k) []).1
                have b : (freeT n k).length ≤ 1 + k.sz := by
                  unfold freeT
                  rw [List.length_append]
                  have := freeK_len k n.kind n.text 0 []
                  split <;> simp <;> omega
                simp only [F.sz] at hl
                simp at a
                omega
              exact funs_f p _ c ns s x _ _ _ w (Lib.hid h) (Lib.hid hf) hs (Lib.hid hx') h0 hd (Lib.hid hn) (Lib.hid hck) hfs (Lib.hid hss) (Lib.hid hlen) (Lib.hid (.inr ⟨_, _, hok.1, hok.2.1, by rw [h3], hfs, rfl⟩)) (free_fun s n k 1)
        · exact funs_d p _ c ns s x w (Lib.hid h) (Lib.hid hf) hs (Lib.hid hx) h0 hd
      · exact funs_b p _ c ns s x w (Lib.hid h) (Lib.hid hf) hs (Lib.hid hx) h0
    · exact funs_s p _ c ns s w (Lib.hid h) (Lib.hid hf) hs
end Go.Proofs.Ytgbggdghgdeohaa
