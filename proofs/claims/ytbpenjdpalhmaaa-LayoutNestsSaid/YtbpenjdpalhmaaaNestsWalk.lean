/- The walk of LayoutNests. -/
import Derived.Test.YtbpenjdpalhmaaaLayJ
namespace Go.Proofs.Ytbpenjdpalhmaaa
open Go.Shelf Go.RowKit Go.Lib Go.Sort Go.Proofs.TreeMath
theorem indL_snoc (n : Nat) (s : ByteArray) (i : Nat) (h : i < s.size) : indL n (s.data.toList.take (i + 1)) = indL n (s.data.toList.take i) ++ indC n s[i] := by
  have hl : i < s.data.toList.length := by simpa using h
  rw [List.take_succ_eq_append_getElem hl, indL_append, indL_cons]
  show _ = _ ++ indC n s.data.toList[i]
  rw [show indL n [] = [] from rfl, List.append_nil]
theorem indL_len (n : Nat) (l : List UInt8) : (indL n l).length ≤ (n + 1) * l.length := by
  induction l with
  | nil => simp [indL]
  | cons c l ih =>
    rw [indL_cons, List.length_append, List.length_cons, Nat.mul_succ]
    have : (indC n c).length ≤ n + 1 := by
      unfold indC
      split <;> simp
    omega
set_option maxRecDepth 100000 in
theorem nests_far (p : Option Addr) (z c : Nat) (n wd : Int) (w : World) (h60 : 60 < z) : Calls Try.prog 7 #[.slice p z c, .int .i64 n, .int .i64 wd] w (RB true w) := by
  have g60 : decide ((60 : Int) < (z : Int)) = true := by simp; omega
  go_enter Try.func7, Try.ntmps7
  go_wp2_with fail
  refine (awake_any _).mono ?_
  rintro e w1 ⟨rfl, b1⟩
  have B1 := Lib.hid b1
  clear b1
  go_wp2_with fail
  refine (awake_any _).mono ?_
  rintro e w2 ⟨rfl, b2⟩
  have B2 := Lib.hid (B1.out.trans (b2.mono B1.out.size))
  clear b2
  go_wp2_with fail
  go_ret
  exact ⟨rfl, B2.out⟩
set_option maxRecDepth 100000 in
set_option maxHeartbeats 4000000 in
theorem nests_long (p : Option Addr) (z c : Nat) (ns : List Nd) (n wd : Int) (w : World) (H : Hid (NodesAt w (.slice p z c) ns)) (HL : Hid (ns.length = z)) (h60 : z ≤ 60) (LG : Hid (longB ns = true)) :
    Calls Try.prog 7 #[.slice p z c, .int .i64 n, .int .i64 wd] w (RB true w) := by
  have HN : Hid (ns.length ≤ 1000000) := Lib.hid (by rw [HL.out]; omega)
  have LO := Lib.hid (fun W (hW : Below w.heap.size w W) => long_any _ ns W (H.out.below hW) HN.out)
  rw [LG.out] at LO
  have g60 : decide ((60 : Int) < (z : Int)) = false := by simp; omega
  go_enter Try.func7, Try.ntmps7
  go_wp2_with fail
  refine (awake_any _).mono ?_
  rintro e w1 ⟨rfl, b1⟩
  have B1 := Lib.hid b1
  clear b1
  go_wp2_with fail
  refine (LO.out _ B1.out).mono ?_
  rintro e w2 ⟨rfl, rfl⟩
  go_wp2_with fail
  refine (awake_any _).mono ?_
  rintro e w3 ⟨rfl, b3⟩
  have B3 := Lib.hid (B1.out.trans (b3.mono B1.out.size))
  clear b3
  go_wp2_with fail
  go_ret
  exact ⟨rfl, B3.out⟩
set_option maxRecDepth 100000 in
set_option maxHeartbeats 4000000 in
theorem nests_n1 (p : Option Addr) (z c : Nat) (ns : List Nd) (n wd : Int) (w : World) (H : Hid (NodesAt w (.slice p z c) ns)) (HL : Hid (ns.length = z)) (h60 : z ≤ 60) (LG : Hid (longB ns = false)) (h1 : n < 0) :
    Calls Try.prog 7 #[.slice p z c, .int .i64 n, .int .i64 wd] w (RB true w) := by
  have HN : Hid (ns.length ≤ 1000000) := Lib.hid (by rw [HL.out]; omega)
  have LO := Lib.hid (fun W (hW : Below w.heap.size w W) => long_any _ ns W (H.out.below hW) HN.out)
  rw [LG.out] at LO
  have g60 : decide ((60 : Int) < (z : Int)) = false := by simp; omega
  go_enter Try.func7, Try.ntmps7
  go_wp2_with fail
  refine (awake_any _).mono ?_
  rintro e w1 ⟨rfl, b1⟩
  have B1 := Lib.hid b1
  clear b1
  go_wp2_with fail
  refine (LO.out _ B1.out).mono ?_
  rintro e w2 ⟨rfl, rfl⟩
  go_wp2_with fail
  refine (awake_any _).mono ?_
  rintro e w3 ⟨rfl, b3⟩
  have B3 := Lib.hid (B1.out.trans (b3.mono B1.out.size))
  clear b3
  go_wp2_with fail
  go_ret
  exact ⟨rfl, B3.out⟩
set_option maxRecDepth 100000 in
set_option maxHeartbeats 4000000 in
theorem nests_n2 (p : Option Addr) (z c : Nat) (ns : List Nd) (n wd : Int) (w : World) (H : Hid (NodesAt w (.slice p z c) ns)) (HL : Hid (ns.length = z)) (h60 : z ≤ 60) (LG : Hid (longB ns = false)) (h1 : 0 ≤ n) (h2 : 40 < n) :
    Calls Try.prog 7 #[.slice p z c, .int .i64 n, .int .i64 wd] w (RB true w) := by
  have HN : Hid (ns.length ≤ 1000000) := Lib.hid (by rw [HL.out]; omega)
  have LO := Lib.hid (fun W (hW : Below w.heap.size w W) => long_any _ ns W (H.out.below hW) HN.out)
  rw [LG.out] at LO
  have g60 : decide ((60 : Int) < (z : Int)) = false := by simp; omega
  go_enter Try.func7, Try.ntmps7
  go_wp2_with fail
  refine (awake_any _).mono ?_
  rintro e w1 ⟨rfl, b1⟩
  have B1 := Lib.hid b1
  clear b1
  go_wp2_with fail
  refine (LO.out _ B1.out).mono ?_
  rintro e w2 ⟨rfl, rfl⟩
  go_wp2_with fail
  refine (awake_any _).mono ?_
  rintro e w3 ⟨rfl, b3⟩
  have B3 := Lib.hid (B1.out.trans (b3.mono B1.out.size))
  clear b3
  go_wp2_with fail
  go_ret
  exact ⟨rfl, B3.out⟩
set_option maxRecDepth 100000 in
set_option maxHeartbeats 4000000 in
theorem nests_n3 (p : Option Addr) (z c : Nat) (ns : List Nd) (n wd : Int) (w : World) (H : Hid (NodesAt w (.slice p z c) ns)) (HL : Hid (ns.length = z)) (h60 : z ≤ 60) (LG : Hid (longB ns = false)) (h1 : 0 ≤ n) (h2 : n ≤ 40) (h3 : wd < 1) :
    Calls Try.prog 7 #[.slice p z c, .int .i64 n, .int .i64 wd] w (RB true w) := by
  have HN : Hid (ns.length ≤ 1000000) := Lib.hid (by rw [HL.out]; omega)
  have LO := Lib.hid (fun W (hW : Below w.heap.size w W) => long_any _ ns W (H.out.below hW) HN.out)
  rw [LG.out] at LO
  have g60 : decide ((60 : Int) < (z : Int)) = false := by simp; omega
  go_enter Try.func7, Try.ntmps7
  go_wp2_with fail
  refine (awake_any _).mono ?_
  rintro e w1 ⟨rfl, b1⟩
  have B1 := Lib.hid b1
  clear b1
  go_wp2_with fail
  refine (LO.out _ B1.out).mono ?_
  rintro e w2 ⟨rfl, rfl⟩
  go_wp2_with fail
  refine (awake_any _).mono ?_
  rintro e w3 ⟨rfl, b3⟩
  have B3 := Lib.hid (B1.out.trans (b3.mono B1.out.size))
  clear b3
  go_wp2_with fail
  go_ret
  exact ⟨rfl, B3.out⟩
set_option maxRecDepth 100000 in
set_option maxHeartbeats 4000000 in
theorem nests_n4 (p : Option Addr) (z c : Nat) (ns : List Nd) (n wd : Int) (w : World) (H : Hid (NodesAt w (.slice p z c) ns)) (HL : Hid (ns.length = z)) (h60 : z ≤ 60) (LG : Hid (longB ns = false)) (h1 : 0 ≤ n) (h2 : n ≤ 40) (h3 : 1 ≤ wd) (h4 : 900 < wd) :
    Calls Try.prog 7 #[.slice p z c, .int .i64 n, .int .i64 wd] w (RB true w) := by
  have HN : Hid (ns.length ≤ 1000000) := Lib.hid (by rw [HL.out]; omega)
  have LO := Lib.hid (fun W (hW : Below w.heap.size w W) => long_any _ ns W (H.out.below hW) HN.out)
  rw [LG.out] at LO
  have g60 : decide ((60 : Int) < (z : Int)) = false := by simp; omega
  go_enter Try.func7, Try.ntmps7
  go_wp2_with fail
  refine (awake_any _).mono ?_
  rintro e w1 ⟨rfl, b1⟩
  have B1 := Lib.hid b1
  clear b1
  go_wp2_with fail
  refine (LO.out _ B1.out).mono ?_
  rintro e w2 ⟨rfl, rfl⟩
  go_wp2_with fail
  refine (awake_any _).mono ?_
  rintro e w3 ⟨rfl, b3⟩
  have B3 := Lib.hid (B1.out.trans (b3.mono B1.out.size))
  clear b3
  go_wp2_with fail
  go_ret
  exact ⟨rfl, B3.out⟩
set_option maxRecDepth 100000 in
set_option maxHeartbeats 4000000 in
theorem nests_no (p : Option Addr) (z c : Nat) (ns : List Nd) (n wd : Int) (w : World) (H : Hid (NodesAt w (.slice p z c) ns)) (HL : Hid (ns.length = z)) (h60 : z ≤ 60) (LG : Hid (longB ns = false)) (HD : Hid (docB ns = false)) (h1 : 0 ≤ n) (h2 : n ≤ 40) (h3 : 1 ≤ wd) (h4 : wd ≤ 900) :
    Calls Try.prog 7 #[.slice p z c, .int .i64 n, .int .i64 wd] w (RB true w) := by
  have HN : Hid (ns.length ≤ 1000000) := Lib.hid (by rw [HL.out]; omega)
  have LO := Lib.hid (fun W (hW : Below w.heap.size w W) => long_any _ ns W (H.out.below hW) HN.out)
  rw [LG.out] at LO
  have g60 : decide ((60 : Int) < (z : Int)) = false := by simp; omega
  go_enter Try.func7, Try.ntmps7
  go_wp2_with fail
  refine (awake_any _).mono ?_
  rintro e w1 ⟨rfl, b1⟩
  have B1 := Lib.hid b1
  clear b1
  go_wp2_with fail
  refine (LO.out _ B1.out).mono ?_
  rintro e w2 ⟨rfl, rfl⟩
  go_wp2_with fail
  refine (own_bel _ ns w _ H.out HN.out B1.out).mono ?_
  rintro e w3 ⟨v3, rfl, h3, b3⟩
  have B3 := Lib.hid (B1.out.trans (b3.mono B1.out.size))
  clear b3
  have H3 := Lib.hid h3
  clear h3
  go_wp2_with fail
  refine (check_any _ ns _ H3.out HN.out).mono ?_
  rintro e w4 ⟨rfl, b4⟩
  have B4 := Lib.hid (B3.out.trans (b4.mono B3.out.size))
  clear b4
  rw [chk_no HD.out]
  go_wp2_with fail
  refine (awake_any _).mono ?_
  rintro e w5 ⟨rfl, b5⟩
  have B5 := Lib.hid (B4.out.trans (b5.mono B4.out.size))
  clear b5
  go_wp2_with fail
  go_ret
  exact ⟨rfl, B5.out⟩
set_option maxRecDepth 100000 in
set_option maxHeartbeats 4000000 in
theorem nests_yes (p : Option Addr) (z c : Nat) (ns : List Nd) (n wd : Nat) (f : F) (w : World) (H : Hid (NodesAt w (.slice p z c) ns)) (HL : Hid (ns.length = z)) (h60 : z ≤ 60) (LG : Hid (longB ns = false)) (HF : Hid (IsDoc f ns)) (h2 : n ≤ 40) (h3 : 1 ≤ wd) (h4 : wd ≤ 900) :
    Calls Try.prog 7 #[.slice p z c, .int .i64 (n : Int), .int .i64 (wd : Int)] w (RB true w) := by
  have HN : Hid (ns.length ≤ 1000000) := Lib.hid (by rw [HL.out]; omega)
  have LO := Lib.hid (fun W (hW : Below w.heap.size w W) => long_any _ ns W (H.out.below hW) HN.out)
  rw [LG.out] at LO
  have g60 : decide ((60 : Int) < (z : Int)) = false := by simp; omega
  have hab := nest_lay wd n f HF.out.2.2.2.1
  have hsz : (cN :: nL :: ns).length ≤ 62 := by have := HL.out; simp; omega
  have hdoc := cat_doc ns f HF.out (by rw [HL.out]; omega)
  have bA := lay_len wd (.cons cN (.cons nL .nil f) .nil) hdoc.2.2.2.1 0 0 false (by
    have : (F.cons cN (.cons nL .nil f) .nil).sz = (cN :: nL :: ns).length := by rw [← F.flat_length, hdoc.2.2.1]
    omega)
  have bA2 : (layT wd (.cons cN (.cons nL .nil f) .nil) 0 0 false).length ≤ 100000000 := by
    have : (F.cons cN (.cons nL .nil f) .nil).sz = (cN :: nL :: ns).length := by rw [← F.flat_length, hdoc.2.2.1]
    omega
  obtain ⟨A, hA⟩ : ∃ A, A = layT wd (.cons cN (.cons nL .nil f) .nil) 0 0 false := ⟨_, rfl⟩
  rw [← hA] at hab bA2
  have HA := Lib.hid hA
  have HBA := Lib.hid hab
  have BA2 := Lib.hid bA2
  have g3 : decide ((wd : Int) < 1) = false := by simp; omega
  have g4 : decide ((900 : Int) < (wd : Int)) = false := by simp; omega
  have g2 : decide ((40 : Int) < (n : Int)) = false := by simp; omega
  clear hA hab bA bA2 hsz hdoc
  go_enter Try.func7, Try.ntmps7
  go_wp2_with fail
  refine (awake_any _).mono ?_
  rintro e w1 ⟨rfl, b1⟩
  have B1 := Lib.hid b1
  clear b1
  go_wp2_with fail
  refine (LO.out _ B1.out).mono ?_
  rintro e w2 ⟨rfl, rfl⟩
  go_wp2_with fail
  refine (own_bel _ ns w _ H.out HN.out B1.out).mono ?_
  rintro e w3 ⟨v3, rfl, h3, b3⟩
  have B3 := Lib.hid (B1.out.trans (b3.mono B1.out.size))
  clear b3
  have H3 := Lib.hid h3
  clear h3
  go_wp2_with fail
  refine (check_any _ ns _ H3.out HN.out).mono ?_
  rintro e w4 ⟨rfl, b4⟩
  have B4 := Lib.hid (B3.out.trans (b4.mono B3.out.size))
  clear b4
  rw [chk_yes HF.out.2.2.2.2.2]
  go_wp2_with fail
  refine (line_any _).mono ?_
  rintro e w5 ⟨v5, rfl, h5, b5⟩
  have B5 := Lib.hid (B4.out.trans (b5.mono B4.out.size))
  clear b5
  have HL5 := Lib.hid h5
  clear h5
  go_wp2_with fail
  refine (own_bel _ ns w _ H.out HN.out B5.out).mono ?_
  rintro e w6 ⟨v6, rfl, h6, b6⟩
  have HL6 := Lib.hid (HL5.out.below b6)
  have H6 := Lib.hid h6
  have B6 := Lib.hid (B5.out.trans (b6.mono B5.out.size))
  clear h6 b6
  obtain ⟨pa6, ka6, rfl⟩ := node_form HL6.out
  obtain ⟨pb6, kb6, rfl⟩ := node_form H6.out
  have hL6 : ListsAt (w6.alloc (.cells #[.slice pa6 1 ka6, .slice pb6 ns.length kb6] 22)) (.slice (some ⟨w6.heap.size, 0, none⟩) 2 2) [[nL], ns] :=
    lists_lit w6 [.slice pa6 1 ka6, .slice pb6 ns.length kb6] 22 [[nL], ns] rfl (by simp) (fun i hi => by
      match i, hi with
      | 0, _ => exact HL6.out
      | 1, _ => exact H6.out)
  have A6 := Lib.hid (B6.out.alloc B6.out.size (.cells #[.slice pa6 1 ka6, .slice pb6 ns.length kb6] 22))
  have C6 := Lib.hid (cat_any _ [[nL], ns] _ hL6 ⟨by simp, by have := HL.out; simp; omega⟩)
  clear hL6
  go_wp2_with fail
  refine (C6.out).mono ?_
  rintro e w7 ⟨v7, rfl, h7, b7⟩
  have B7 := Lib.hid (A6.out.trans (b7.mono A6.out.size))
  clear b7
  rw [make_cat] at h7
  have H7 := Lib.hid h7
  clear h7
  go_wp2_with fail
  refine (lyes _ (cN :: nL :: ns) (.cons cN (.cons nL .nil f) .nil) wd _ H7.out (cat_doc ns f HF.out (by rw [HL.out]; omega)) h3 (by omega)).mono ?_
  rintro e w8 ⟨rfl, b8⟩
  have B8 := Lib.hid (B7.out.trans (b8.mono B7.out.size))
  clear b8
  rw [← HA.out]
  go_wp2_with fail
  refine (line_any _).mono ?_
  rintro e w9 ⟨v9, rfl, h9, b9⟩
  have B9 := Lib.hid (B8.out.trans (b9.mono B8.out.size))
  clear b9
  have HL9 := Lib.hid h9
  clear h9
  go_wp2_with fail
  refine (own_bel _ ns w _ H.out HN.out B9.out).mono ?_
  rintro e w10 ⟨v10, rfl, h10, b10⟩
  have HL10 := Lib.hid (HL9.out.below b10)
  have H10 := Lib.hid h10
  have B10 := Lib.hid (B9.out.trans (b10.mono B9.out.size))
  clear h10 b10
  obtain ⟨pa10, ka10, rfl⟩ := node_form HL10.out
  obtain ⟨pb10, kb10, rfl⟩ := node_form H10.out
  have hL10 : ListsAt (w10.alloc (.cells #[.slice pa10 1 ka10, .slice pb10 ns.length kb10] 22)) (.slice (some ⟨w10.heap.size, 0, none⟩) 2 2) [[nL], ns] :=
    lists_lit w10 [.slice pa10 1 ka10, .slice pb10 ns.length kb10] 22 [[nL], ns] rfl (by simp) (fun i hi => by
      match i, hi with
      | 0, _ => exact HL10.out
      | 1, _ => exact H10.out)
  have A10 := Lib.hid (B10.out.alloc B10.out.size (.cells #[.slice pa10 1 ka10, .slice pb10 ns.length kb10] 22))
  have C10 := Lib.hid (cat_any _ [[nL], ns] _ hL10 ⟨by simp, by have := HL.out; simp; omega⟩)
  clear hL10
  go_wp2_with fail
  refine (C10.out).mono ?_
  rintro e w11 ⟨v11, rfl, h11, b11⟩
  have B11 := Lib.hid (A10.out.trans (b11.mono A10.out.size))
  clear b11
  rw [make_cat] at h11
  have H11 := Lib.hid h11
  clear h11
  go_wp2_with fail
  refine (nest_any (n : Int) _ (cN :: nL :: ns) _ H11.out (by have := HL.out; simp; omega)).mono ?_
  rintro e w12 ⟨v12, rfl, h12, b12⟩
  have B12 := Lib.hid (B11.out.trans (b12.mono B11.out.size))
  clear b12
  rw [make_nest] at h12
  have H12 := Lib.hid h12
  clear h12
  have LN := Lib.hid (lyes _ (tN n :: cN :: nL :: ns) (.cons (tN n) (.cons cN (.cons nL .nil f) .nil) .nil) (wd + n) _ H12.out (nest_doc n h2 _ _ (cat_doc ns f HF.out (by rw [HL.out]; omega)) (by have := HL.out; simp; omega)) (by omega) (by omega))
  rw [Int.natCast_add] at LN
  go_wp2_with fail
  refine (LN.out).mono ?_
  rintro e w13 ⟨rfl, b13⟩
  have B13 := Lib.hid (B12.out.trans (b13.mono B12.out.size))
  clear b13
  rw [HBA.out]
  obtain ⟨s, hs⟩ : ∃ s, s = bs A := ⟨_, rfl⟩
  have hsl : s.data.toList = A := by rw [hs, bs_list]
  have hsz : s.size ≤ 100000000 := by rw [hs, bs_size]; exact BA2.out
  rw [← hs]
  have HSL := Lib.hid hsl
  clear hs hsl
  go_wp2_with fail
  have BF := Lib.hid (B13.out)
  go_loop [11, 12] (fun t11 t12 => ∃ i : Nat, i ≤ s.size ∧ t12 = .int .i64 (i : Int) ∧ t11 = .string (bs (indL n (s.data.toList.take i)))) (fun _ t12 => s.size - (intOf t12).toNat)
  case atStart => exact ⟨0, Nat.zero_le _, rfl, rfl⟩
  case round =>
    obtain ⟨i, hi, rfl, rfl⟩ := hrel
    by_cases hlt : i < s.size
    · have hsn := indL_snoc n s i hlt
      have hlen := indL_len n (s.data.toList.take i)
      have hll : (s.data.toList.take i).length ≤ i := List.length_take_le _ _
      obtain ⟨X, hX⟩ : ∃ X, X = indL n (s.data.toList.take i) := ⟨_, rfl⟩
      rw [← hX] at hsn hlen ⊢
      have hXb : X.length ≤ 4100000000 := by
        have : (n + 1) * (s.data.toList.take i).length ≤ 41 * 100000000 := Nat.mul_le_mul (by omega) (by omega)
        omega
      have hza : (bs X).size ≤ 4100000000 := by rw [bs_size]; exact hXb
      have zk : (bs [s[i]]).size ≤ 1 := by rw [bs_size]; simp
      have hcut := fun W => cut_one s i hlt W
      have HS := Lib.hid hsn
      clear hsn hX hlen hll
      by_cases h1 : (s[i].toNat : Int) = 10
      · have e1 : ((s[i].toNat : Int) == 10) = true := by simpa using h1
        have KN : Hid (indC n s[i] = [s[i]] ++ List.replicate n 32) := Lib.hid (by
          have : s[i] = 10 := (byte_ten _).mpr h1
          rw [this]
          rfl)
        clear h1
        go_wp2_with fail
        go_loop [11, 13] (fun t11 t13 => ∃ j : Nat, j ≤ n ∧ t13 = .int .i64 (j : Int) ∧ t11 = .string (bs (X ++ [s[i]] ++ List.replicate j 32))) (fun _ t13 => n - (intOf t13).toNat)
        case atStart => exact ⟨0, Nat.zero_le _, rfl, by rw [bs_append, List.replicate_zero, List.append_nil]⟩
        case round =>
          obtain ⟨j, hj, rfl, rfl⟩ := hrel
          by_cases hjn : j < n
          · obtain ⟨Q, hQ⟩ : ∃ Q, Q = X ++ [s[i]] ++ List.replicate j 32 := ⟨_, rfl⟩
            rw [← hQ]
            have hzb : (bs Q).size ≤ 4100000100 := by rw [bs_size, hQ]; simp; omega
            have HQ := Lib.hid hQ
            clear hQ
            go_wp2
            go_round
            case rel => exact ⟨j + 1, by omega, by go_num, by rw [List.replicate_succ', ← List.append_assoc, ← HQ.out, ← bs_append Q]; rfl⟩
            case measure => simp [intOf]; omega
          · obtain rfl : j = n := by omega
            go_wp2
            go_round
            case rel => exact ⟨i + 1, by omega, by go_num, by rw [HS.out, KN.out, List.append_assoc]⟩
            case measure => simp [intOf]; omega
      · have e1 : ((s[i].toNat : Int) == 10) = false := by simpa using h1
        have KN : Hid (indC n s[i] = [s[i]]) := Lib.hid (by
          unfold indC
          rw [if_neg (fun e => h1 ((byte_ten _).mp e))])
        clear h1
        go_wp2
        go_round
        case rel => exact ⟨i + 1, by omega, by go_num, by rw [HS.out, KN.out, ← bs_append]⟩
        case measure => simp [intOf]; omega
    · have hfull : s.data.toList.take i = A := by rw [List.take_of_length_le (by simp; omega), HSL.out]
      rw [hfull]
      clear hfull
      go_wp2
      go_ret
      exact ⟨rfl, BF.out⟩
theorem nests_walk (v : Value) (ns : List Nd) (n wd : Int) (w : World) (h : NodesAt w v ns) : Calls Try.prog 7 #[v, .int .i64 n, .int .i64 wd] w (RB true w) := by
  obtain ⟨p, c, rfl⟩ := node_form h
  by_cases h60 : 60 < ns.length
  · exact nests_far p _ c n wd w h60
  cases hl : longB ns
  · by_cases h1 : n < 0
    · exact nests_n1 p _ c ns n wd w (Lib.hid h) (Lib.hid rfl) (by omega) (Lib.hid hl) h1
    by_cases h2 : 40 < n
    · exact nests_n2 p _ c ns n wd w (Lib.hid h) (Lib.hid rfl) (by omega) (Lib.hid hl) (by omega) h2
    by_cases h3 : wd < 1
    · exact nests_n3 p _ c ns n wd w (Lib.hid h) (Lib.hid rfl) (by omega) (Lib.hid hl) (by omega) (by omega) h3
    by_cases h4 : 900 < wd
    · exact nests_n4 p _ c ns n wd w (Lib.hid h) (Lib.hid rfl) (by omega) (Lib.hid hl) (by omega) (by omega) (by omega) h4
    cases hd : docB ns
    · exact nests_no p _ c ns n wd w (Lib.hid h) (Lib.hid rfl) (by omega) (Lib.hid hl) (Lib.hid hd) (by omega) (by omega) (by omega) (by omega)
    · obtain ⟨f, hf⟩ := isDoc_of ns hd (fun x hx => by have := longB_le ns hl x hx; omega)
      obtain ⟨m, rfl⟩ : ∃ m : Nat, wd = m := ⟨wd.toNat, by omega⟩
      obtain ⟨k, rfl⟩ : ∃ k : Nat, n = k := ⟨n.toNat, by omega⟩
      exact nests_yes p _ c ns k m f w (Lib.hid h) (Lib.hid rfl) (by omega) (Lib.hid hl) (Lib.hid hf) (by omega) (by omega) (by omega)
  · exact nests_long p _ c ns n wd w (Lib.hid h) (Lib.hid rfl) (by omega) (Lib.hid hl)
end Go.Proofs.Ytbpenjdpalhmaaa
