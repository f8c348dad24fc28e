/- The walk of SynParts. -/
import Derived.Test.YtgbggdghgdeohaaSynP
namespace Go.Proofs.Ytgbggdghgdeohaa
open Go.RowKit Go.Proofs.TreeMath
set_option maxRecDepth 100000 in
set_option maxHeartbeats 4000000 in
theorem parts_a (p : Option Addr) (n c : Nat) (ns : List Nd) (a : Int) (w : World) (H : Hid (NodesAt w (.slice p n c) ns))  (FW : Hid (fewB ns = false)) :
    Calls Try.prog 5 #[.slice p n c, .int .i64 a] w (RB true w) := by
  have FEW := Lib.hid (fun W (hW : Below w.heap.size w W) => few_any _ ns W (H.out.below hW))
  rw [FW.out] at FEW
  go_enter Try.func5, Try.ntmps5
  go_wp2_with fail
  refine (awake_any _).mono ?_
  rintro e w1 ⟨rfl, b1⟩
  have B1 := Lib.hid b1
  clear b1
  go_wp2_with fail
  refine (FEW.out _ B1.out).mono ?_
  rintro e w2 ⟨rfl, rfl⟩
  go_wp2_with fail
  refine (awake_any _).mono ?_
  rintro e w3 ⟨rfl, b3⟩
  have B3 := Lib.hid (B1.out.trans (b3.mono B1.out.size))
  clear b3
  go_wp2_with fail
  go_ret
  exact ⟨rfl, B3.out⟩
set_option maxRecDepth 100000 in
set_option maxHeartbeats 4000000 in
theorem parts_b (p : Option Addr) (n c : Nat) (ns : List Nd) (a x : Int) (w : World) (H : Hid (NodesAt w (.slice p n c) ns))  (FW : Hid (fewB ns = true)) (CX : Hid (CheckIs ns 0 x)) (h0 : ¬ x = 0) :
    Calls Try.prog 5 #[.slice p n c, .int .i64 a] w (RB true w) := by
  have FEW := Lib.hid (fun W (hW : Below w.heap.size w W) => few_any _ ns W (H.out.below hW))
  rw [FW.out] at FEW
  have HN : Hid (ns.length ≤ 1000000) := Lib.hid (by have := (few_yes FW.out).1; omega)
  have CHK := Lib.hid (fun v W (h : NodesAt W v ns) => Check_any v ns x W h (by have := (few_yes FW.out).1; omega) (few_yes FW.out).2 CX.out)
  have g0 : (x != 0) = true := by simpa using h0
  clear h0
  go_enter Try.func5, Try.ntmps5
  go_wp2_with fail
  refine (awake_any _).mono ?_
  rintro e w1 ⟨rfl, b1⟩
  have B1 := Lib.hid b1
  clear b1
  go_wp2_with fail
  refine (FEW.out _ B1.out).mono ?_
  rintro e w2 ⟨rfl, rfl⟩
  go_wp2_with fail
  refine (own_bel _ ns w _ H.out HN.out B1.out).mono ?_
  rintro e w3 ⟨v3, rfl, h3, b3⟩
  have B3 := Lib.hid (B1.out.trans (b3.mono B1.out.size))
  clear b3
  obtain ⟨p3, c3, rfl⟩ := nodes_form h3
  have H3 := Lib.hid h3
  clear h3
  go_wp2_with fail
  refine (CHK.out _ _ H3.out).mono ?_
  rintro e w4 ⟨rfl, b4⟩
  have B4 := Lib.hid (B3.out.trans (b4.mono B3.out.size))
  clear b4
  go_wp2_with fail
  refine (awake_any _).mono ?_
  rintro e w5 ⟨rfl, b5⟩
  have B5 := Lib.hid (B4.out.trans (b5.mono B4.out.size))
  clear b5
  go_wp2_with fail
  go_ret
  exact ⟨rfl, B5.out⟩
set_option maxRecDepth 100000 in
set_option maxHeartbeats 4000000 in
theorem parts_c (p : Option Addr) (n c : Nat) (ns : List Nd) (a x : Int) (w : World) (H : Hid (NodesAt w (.slice p n c) ns))  (FW : Hid (fewB ns = true)) (CX : Hid (CheckIs ns 0 x)) (h0 : x = 0) (SL : Hid (subL ns a = [])) (SE : Hid (subE ns a = 20)) (ha : a < 0 ∨ (n : Int) ≤ a) :
    Calls Try.prog 5 #[.slice p n c, .int .i64 a] w (RB true w) := by
  have FEW := Lib.hid (fun W (hW : Below w.heap.size w W) => few_any _ ns W (H.out.below hW))
  rw [FW.out] at FEW
  have HN : Hid (ns.length ≤ 1000000) := Lib.hid (by have := (few_yes FW.out).1; omega)
  have CHK := Lib.hid (fun v W (h : NodesAt W v ns) => Check_any v ns x W h (by have := (few_yes FW.out).1; omega) (few_yes FW.out).2 CX.out)
  have SUB := Lib.hid (fun v W (h : NodesAt W v ns) => sub_any v ns a W h HN.out)
  rw [SL.out, SE.out] at SUB
  subst h0
  have g1 : (decide (a < 0) || decide ((n : Int) ≤ a)) = true := by simpa using ha
  by_cases ha0 : a < 0
  · have g2 : decide (a < 0) = true := by simpa using ha0
    clear ha
    go_enter Try.func5, Try.ntmps5
    go_wp2_with fail
    refine (awake_any _).mono ?_
    rintro e w1 ⟨rfl, b1⟩
    have B1 := Lib.hid b1
    clear b1
    go_wp2_with fail
    refine (FEW.out _ B1.out).mono ?_
    rintro e w2 ⟨rfl, rfl⟩
    go_wp2_with fail
    refine (own_bel _ ns w _ H.out HN.out B1.out).mono ?_
    rintro e w3 ⟨v3, rfl, h3, b3⟩
    have B3 := Lib.hid (B1.out.trans (b3.mono B1.out.size))
    clear b3
    obtain ⟨p3, c3, rfl⟩ := nodes_form h3
    have H3 := Lib.hid h3
    clear h3
    go_wp2_with fail
    refine (CHK.out _ _ H3.out).mono ?_
    rintro e w4 ⟨rfl, b4⟩
    have B4 := Lib.hid (B3.out.trans (b4.mono B3.out.size))
    clear b4
    go_wp2_with fail
    refine (own_bel _ ns w _ H.out HN.out B4.out).mono ?_
    rintro e w5 ⟨v5, rfl, h5, b5⟩
    have B5 := Lib.hid (B4.out.trans (b5.mono B4.out.size))
    clear b5
    obtain ⟨p5, c5, rfl⟩ := nodes_form h5
    have H5 := Lib.hid h5
    clear h5
    go_wp2_with fail
    refine (SUB.out _ _ H5.out).mono ?_
    rintro e w6 ⟨v6, rfl, h6, b6⟩
    have B6 := Lib.hid (B5.out.trans (b6.mono B5.out.size))
    clear b6
    obtain ⟨p6, c6, rfl⟩ := nodes_form h6
    clear h6
    go_wp2_with fail
    go_ret
    exact ⟨rfl, B6.out⟩
  · have g2 : decide (a < 0) = false := by simpa using ha0
    have g3 : decide ((n : Int) ≤ a) = true := by simp; omega
    clear ha
    go_enter Try.func5, Try.ntmps5
    go_wp2_with fail
    refine (awake_any _).mono ?_
    rintro e w1 ⟨rfl, b1⟩
    have B1 := Lib.hid b1
    clear b1
    go_wp2_with fail
    refine (FEW.out _ B1.out).mono ?_
    rintro e w2 ⟨rfl, rfl⟩
    go_wp2_with fail
    refine (own_bel _ ns w _ H.out HN.out B1.out).mono ?_
    rintro e w3 ⟨v3, rfl, h3, b3⟩
    have B3 := Lib.hid (B1.out.trans (b3.mono B1.out.size))
    clear b3
    obtain ⟨p3, c3, rfl⟩ := nodes_form h3
    have H3 := Lib.hid h3
    clear h3
    go_wp2_with fail
    refine (CHK.out _ _ H3.out).mono ?_
    rintro e w4 ⟨rfl, b4⟩
    have B4 := Lib.hid (B3.out.trans (b4.mono B3.out.size))
    clear b4
    go_wp2_with fail
    refine (own_bel _ ns w _ H.out HN.out B4.out).mono ?_
    rintro e w5 ⟨v5, rfl, h5, b5⟩
    have B5 := Lib.hid (B4.out.trans (b5.mono B4.out.size))
    clear b5
    obtain ⟨p5, c5, rfl⟩ := nodes_form h5
    have H5 := Lib.hid h5
    clear h5
    go_wp2_with fail
    refine (SUB.out _ _ H5.out).mono ?_
    rintro e w6 ⟨v6, rfl, h6, b6⟩
    have B6 := Lib.hid (B5.out.trans (b6.mono B5.out.size))
    clear b6
    obtain ⟨p6, c6, rfl⟩ := nodes_form h6
    clear h6
    go_wp2_with fail
    go_ret
    exact ⟨rfl, B6.out⟩
set_option maxRecDepth 100000 in
set_option maxHeartbeats 4000000 in
theorem parts_d (p : Option Addr) (n c : Nat) (ns : List Nd) (s : List Nd) (a x y : Int) (w : World) (H : Hid (NodesAt w (.slice p n c) ns))  (FW : Hid (fewB ns = true)) (CX : Hid (CheckIs ns 0 x)) (h0 : x = 0) (SL : Hid (subL ns a = s)) (SE : Hid (subE ns a = 0)) (SS : Hid (s.length ≤ ns.length ∧ Tx s)) (CY : Hid (CheckIs s 0 y)) (hy : y = 0) :
    Calls Try.prog 5 #[.slice p n c, .int .i64 a] w (RB true w) := by
  have FEW := Lib.hid (fun W (hW : Below w.heap.size w W) => few_any _ ns W (H.out.below hW))
  rw [FW.out] at FEW
  have HN : Hid (ns.length ≤ 1000000) := Lib.hid (by have := (few_yes FW.out).1; omega)
  have CHK := Lib.hid (fun v W (h : NodesAt W v ns) => Check_any v ns x W h (by have := (few_yes FW.out).1; omega) (few_yes FW.out).2 CX.out)
  have SUB := Lib.hid (fun v W (h : NodesAt W v ns) => sub_any v ns a W h HN.out)
  rw [SL.out, SE.out] at SUB
  have HS : Hid (s.length ≤ 1000000) := Lib.hid (by have := (few_yes FW.out).1; have := SS.out.1; omega)
  have CH0 := Lib.hid (fun v W (h : NodesAt W v s) => Check_any v s y W h (by have := (few_yes FW.out).1; have := SS.out.1; omega) SS.out.2 CY.out)
  subst h0
  subst hy
  go_enter Try.func5, Try.ntmps5
  go_wp2_with fail
  refine (awake_any _).mono ?_
  rintro e w1 ⟨rfl, b1⟩
  have B1 := Lib.hid b1
  clear b1
  go_wp2_with fail
  refine (FEW.out _ B1.out).mono ?_
  rintro e w2 ⟨rfl, rfl⟩
  go_wp2_with fail
  refine (own_bel _ ns w _ H.out HN.out B1.out).mono ?_
  rintro e w3 ⟨v3, rfl, h3, b3⟩
  have B3 := Lib.hid (B1.out.trans (b3.mono B1.out.size))
  clear b3
  obtain ⟨p3, c3, rfl⟩ := nodes_form h3
  have H3 := Lib.hid h3
  clear h3
  go_wp2_with fail
  refine (CHK.out _ _ H3.out).mono ?_
  rintro e w4 ⟨rfl, b4⟩
  have B4 := Lib.hid (B3.out.trans (b4.mono B3.out.size))
  clear b4
  go_wp2_with fail
  refine (own_bel _ ns w _ H.out HN.out B4.out).mono ?_
  rintro e w5 ⟨v5, rfl, h5, b5⟩
  have B5 := Lib.hid (B4.out.trans (b5.mono B4.out.size))
  clear b5
  obtain ⟨p5, c5, rfl⟩ := nodes_form h5
  have H5 := Lib.hid h5
  clear h5
  go_wp2_with fail
  refine (SUB.out _ _ H5.out).mono ?_
  rintro e w6 ⟨v6, rfl, h6, b6⟩
  have B6 := Lib.hid (B5.out.trans (b6.mono B5.out.size))
  clear b6
  obtain ⟨p6, c6, rfl⟩ := nodes_form h6
  have H6 := Lib.hid h6
  clear h6
  go_wp2_with fail
  refine (own_any _ s _ H6.out HS.out).mono ?_
  rintro e w7 ⟨v7, rfl, h7, b7⟩
  have B7 := Lib.hid (B6.out.trans (b7.mono B6.out.size))
  clear b7
  obtain ⟨p7, c7, rfl⟩ := nodes_form h7
  have H7 := Lib.hid h7
  clear h7
  go_wp2_with fail
  refine (CH0.out _ _ H7.out).mono ?_
  rintro e w8 ⟨rfl, b8⟩
  have B8 := Lib.hid (B7.out.trans (b8.mono B7.out.size))
  clear b8
  go_wp2_with fail
  go_ret
  exact ⟨rfl, B8.out⟩
set_option maxRecDepth 100000 in
set_option maxHeartbeats 4000000 in
theorem parts_e (p : Option Addr) (n c : Nat) (ns : List Nd) (s : List Nd) (a x y : Int) (w : World) (H : Hid (NodesAt w (.slice p n c) ns))  (FW : Hid (fewB ns = true)) (CX : Hid (CheckIs ns 0 x)) (h0 : x = 0) (SL : Hid (subL ns a = s)) (SE : Hid (subE ns a = 0)) (SS : Hid (s.length ≤ ns.length ∧ Tx s)) (CY : Hid (CheckIs s 0 y)) (hy : ¬ y = 0) (CZ : Hid (CheckIs s 1 0)) :
    Calls Try.prog 5 #[.slice p n c, .int .i64 a] w (RB true w) := by
  have FEW := Lib.hid (fun W (hW : Below w.heap.size w W) => few_any _ ns W (H.out.below hW))
  rw [FW.out] at FEW
  have HN : Hid (ns.length ≤ 1000000) := Lib.hid (by have := (few_yes FW.out).1; omega)
  have CHK := Lib.hid (fun v W (h : NodesAt W v ns) => Check_any v ns x W h (by have := (few_yes FW.out).1; omega) (few_yes FW.out).2 CX.out)
  have SUB := Lib.hid (fun v W (h : NodesAt W v ns) => sub_any v ns a W h HN.out)
  rw [SL.out, SE.out] at SUB
  have HS : Hid (s.length ≤ 1000000) := Lib.hid (by have := (few_yes FW.out).1; have := SS.out.1; omega)
  have CH0 := Lib.hid (fun v W (h : NodesAt W v s) => Check_any v s y W h (by have := (few_yes FW.out).1; have := SS.out.1; omega) SS.out.2 CY.out)
  have CP := Lib.hid (fun v W (h : NodesAt W v s) => Pat_any v s 0 W h (by have := (few_yes FW.out).1; have := SS.out.1; omega) SS.out.2 CZ.out)
  subst h0
  have gy : (y == 0) = false := by simpa using hy
  clear hy
  go_enter Try.func5, Try.ntmps5
  go_wp2_with fail
  refine (awake_any _).mono ?_
  rintro e w1 ⟨rfl, b1⟩
  have B1 := Lib.hid b1
  clear b1
  go_wp2_with fail
  refine (FEW.out _ B1.out).mono ?_
  rintro e w2 ⟨rfl, rfl⟩
  go_wp2_with fail
  refine (own_bel _ ns w _ H.out HN.out B1.out).mono ?_
  rintro e w3 ⟨v3, rfl, h3, b3⟩
  have B3 := Lib.hid (B1.out.trans (b3.mono B1.out.size))
  clear b3
  obtain ⟨p3, c3, rfl⟩ := nodes_form h3
  have H3 := Lib.hid h3
  clear h3
  go_wp2_with fail
  refine (CHK.out _ _ H3.out).mono ?_
  rintro e w4 ⟨rfl, b4⟩
  have B4 := Lib.hid (B3.out.trans (b4.mono B3.out.size))
  clear b4
  go_wp2_with fail
  refine (own_bel _ ns w _ H.out HN.out B4.out).mono ?_
  rintro e w5 ⟨v5, rfl, h5, b5⟩
  have B5 := Lib.hid (B4.out.trans (b5.mono B4.out.size))
  clear b5
  obtain ⟨p5, c5, rfl⟩ := nodes_form h5
  have H5 := Lib.hid h5
  clear h5
  go_wp2_with fail
  refine (SUB.out _ _ H5.out).mono ?_
  rintro e w6 ⟨v6, rfl, h6, b6⟩
  have B6 := Lib.hid (B5.out.trans (b6.mono B5.out.size))
  clear b6
  obtain ⟨p6, c6, rfl⟩ := nodes_form h6
  have H6 := Lib.hid h6
  clear h6
  go_wp2_with fail
  refine (own_any _ s _ H6.out HS.out).mono ?_
  rintro e w7 ⟨v7, rfl, h7, b7⟩
  have H6_7 := Lib.hid (H6.out.below b7)
  have B7 := Lib.hid (B6.out.trans (b7.mono B6.out.size))
  clear b7
  obtain ⟨p7, c7, rfl⟩ := nodes_form h7
  have H7 := Lib.hid h7
  clear h7
  go_wp2_with fail
  refine (CH0.out _ _ H7.out).mono ?_
  rintro e w8 ⟨rfl, b8⟩
  have H6_8 := Lib.hid (H6_7.out.below b8)
  have B8 := Lib.hid (B7.out.trans (b8.mono B7.out.size))
  clear b8
  go_wp2_with fail
  refine (own_any _ s _ H6_8.out HS.out).mono ?_
  rintro e w9 ⟨v9, rfl, h9, b9⟩
  have B9 := Lib.hid (B8.out.trans (b9.mono B8.out.size))
  clear b9
  obtain ⟨p9, c9, rfl⟩ := nodes_form h9
  have H9 := Lib.hid h9
  clear h9
  go_wp2_with fail
  refine (CP.out _ _ H9.out).mono ?_
  rintro e w10 ⟨rfl, b10⟩
  have B10 := Lib.hid (B9.out.trans (b10.mono B9.out.size))
  clear b10
  go_wp2_with fail
  go_ret
  exact ⟨rfl, B10.out⟩
theorem parts_walk (v : Value) (ns : List Nd) (a : Int) (w : World) (h : NodesAt w v ns) : Calls Try.prog 5 #[v, .int .i64 a] w (RB true w) := by
  obtain ⟨p, c, rfl⟩ := nodes_form h
  cases hf : fewB ns with
  | false => exact parts_a p _ c ns a w (Lib.hid h) (Lib.hid hf)
  | true =>
    obtain ⟨x, hx⟩ := check_ex ns 0
    by_cases h0 : x = 0
    · by_cases ha : a < 0 ∨ (ns.length : Int) ≤ a
      · have he := endI_out (kk ns) a (by rw [length_kk]; exact ha)
        exact parts_c p _ c ns a x w (Lib.hid h) (Lib.hid hf) (Lib.hid hx) h0 (Lib.hid (by unfold subL; rw [he]; rfl)) (Lib.hid (by unfold subE; rw [he]; rfl)) ha
      · obtain ⟨m, rfl⟩ : ∃ m : Nat, a = (m : Int) := ⟨a.toNat, by omega⟩
        have hx' := hx
        rcases hx with ⟨_, e⟩ | ⟨f, h1, h2, h3, h4⟩
        · rw [e] at h0; cases h0
        · have hz : synE f 0 = 0 := by rw [← h4, h0]
          obtain ⟨n, k, pre, post, e1, e2, k1, k2, hor⟩ := part_is f h1 hz m (by rw [← F.flat_length, h3]; omega)
          rw [h3] at e1
          have hfin := fin_flat (.cons n k .nil) ⟨k1, k2, trivial⟩ pre post
          rw [show pre ++ ((F.cons n k .nil).flat ++ post) = ns by rw [e1]; simp [F.flat], e2] at hfin
          have hfin : fin (kk ns) m 1 = ((m + (F.cons n k .nil).sz : Nat) : Int) := hfin
          have hsub := sub_flat n k k1 k2 pre post ns e1
          rw [e2] at hsub
          have he : ¬ endI (kk ns) (m : Int) < 0 := by rw [endI_nat, hfin]; omega
          have hL : subL ns (m : Int) = n :: k.flat := by
            unfold subL subN
            rw [if_neg he, endI_nat, Int.toNat_natCast]
            exact hsub
          have hS : (n :: k.flat).length ≤ ns.length ∧ Tx (n :: k.flat) := by
            constructor
            · rw [e1]; simp; omega
            · intro y hy
              refine (few_yes hf).2 y ?_
              rw [e1]
              simp only [List.mem_append, List.mem_cons] at hy ⊢
              rcases hy with hy | hy <;> simp [hy]
          have ck : ∀ root, CheckIs (n :: k.flat) root (synE (.cons n k .nil) root) := fun root => .inr ⟨.cons n k .nil, ⟨k1, k2, trivial⟩, rfl, one_flat n k, rfl⟩
          by_cases hy : synE (.cons n k .nil) 0 = 0
          · exact parts_d p _ c ns _ m x _ w (Lib.hid h) (Lib.hid hf) (Lib.hid hx') h0 (Lib.hid hL) (Lib.hid (by unfold subE; rw [if_neg he])) (Lib.hid hS) (Lib.hid (ck 0)) hy
          · have hp := hor.resolve_left hy
            exact parts_e p _ c ns _ m x _ w (Lib.hid h) (Lib.hid hf) (Lib.hid hx') h0 (Lib.hid hL) (Lib.hid (by unfold subE; rw [if_neg he])) (Lib.hid hS) (Lib.hid (ck 0)) hy (Lib.hid (by have := ck 1; rwa [hp] at this))
    · exact parts_b p _ c ns a x w (Lib.hid h) (Lib.hid hf) (Lib.hid hx) h0
end Go.Proofs.Ytgbggdghgdeohaa
