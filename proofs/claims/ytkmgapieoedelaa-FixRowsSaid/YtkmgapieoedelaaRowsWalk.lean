/- The walk of FixRows. -/
import Derived.Test.YtkmgapieoedelaaFixY
namespace Go.Proofs.Ytkmgapieoedelaa
open Go.Shelf Go.RowKit Go.Lib Go.Sort Go.Proofs.FixMath

set_option maxRecDepth 100000 in
set_option maxHeartbeats 4000000 in
theorem rows_walk (v u : Value) (l : List Fx) (ss : List ByteArray) (w : World) (h1 : FixAt w v l) (h2 : StrsAt w u ss) : Calls Try.prog 6 #[v, u] w (RB true w) := by
  obtain ⟨p, c, rfl⟩ := fix_form h1
  obtain ⟨q, d, rfl⟩ := strs_form h2
  have FW := fun W b => few_any _ _ l ss W (FixAt.below h1 b) (StrsAt.below h2 b)
  cases hf : fewB l ss with
  | false =>
    rw [hf] at FW
    have FF := Lib.hid FW
    clear FW hf h1 h2
    go_enter Try.func6, Try.ntmps6
    go_wp2_with fail
    refine (awake_any _).mono ?_
    rintro e w1 ⟨rfl, b1⟩
    have B1 := Lib.hid b1
    clear b1
    go_wp2_with fail
    refine (FF.out _ B1.out).mono ?_
    rintro e w2 ⟨rfl, rfl⟩
    go_wp2_with fail
    refine (awake_any _).mono ?_
    rintro e w2 ⟨rfl, b2⟩
    go_wp2
    go_ret
    exact ⟨rfl, B1.out.trans (b2.mono B1.out.size)⟩
  | true =>
    rw [hf] at FW
    have FF := Lib.hid FW
    obtain ⟨a1, a2, a3, a4⟩ := few_all hf
    have SM : Small l := fun f hf => Nat.le_trans (a3 f hf) (by omega)
    have CL := Lib.hid (fun v u W h1 h2 => climbs_any v u l ss W h1 h2 (by omega) (by omega) SM)
    have CR := Lib.hid (fun v u W h1 h2 => rclimbs_any v u l ss W h1 h2 (by omega) (by omega) SM)
    have ON := Lib.hid (fun W (b : Below w.heap.size w W) => own_any _ l W (h1.below b) (by omega))
    have H1 := Lib.hid h1
    have H2 := Lib.hid h2
    have LE := climb_len rightF l ss
    have OKS := Lib.hid (@climb_ok rightF l ss)
    have BAD := Lib.hid (@climb_bad rightF l ss)
    obtain ⟨R, hR⟩ : ∃ R, R = climbL rightF l ss := ⟨_, rfl⟩
    rw [← hR] at CL CR LE OKS BAD
    obtain ⟨xs, x⟩ := R
    have LX : xs.length ≤ 2 * ss.length + 1 := LE
    clear LE
    have RW := Lib.hid (fun v u W h1 h2 => row_any v u xs xs W h1 h2 (by omega))
    rw [show decide (xs = xs) = true by simp] at RW
    have HM : Hid (0 + ss.length ≤ maxLen ∧ (0 + ss.length) * 16 ≤ 140737488355328) := Lib.hid ⟨by unfold maxLen; omega, by omega⟩
    obtain ⟨i0, hi, hz0, hz1, hz2⟩ := infoStr
    have HI := Lib.hid (And.intro hi (And.intro hz0 (And.intro hz1 hz2)))
    clear hi hz0 hz1 hz2 FW hf h1 h2 hR a1 a3 a4 SM
    obtain ⟨i1, hi, hz0, hz1, hz2⟩ := infoInt
    have HJ := Lib.hid (And.intro hi (And.intro hz0 (And.intro hz1 hz2)))
    clear hi hz0 hz1 hz2
    have M420 : ss.length ≤ 420 := a2
    go_enter Try.func6, Try.ntmps6
    go_wp2_with fail
    refine (awake_any _).mono ?_
    rintro e w1 ⟨rfl, b1⟩
    have B1 := Lib.hid b1
    clear b1
    go_wp2_with fail
    refine (FF.out _ B1.out).mono ?_
    rintro e w2 ⟨rfl, rfl⟩
    go_wp2_with fail
    refine (ON.out _ B1.out).mono ?_
    rintro e w2 ⟨v2, rfl, f2, b2⟩
    obtain ⟨p2, c2, rfl⟩ := fix_form f2
    have F2 := Lib.hid f2
    have B2 := Lib.hid (B1.out.trans (b2.mono B1.out.size))
    have HX := Lib.hid (strs_src (H2.out.below (B2.out.trans (((Below.refl _ _).alloc (Nat.le_refl _) (.cells #[] 9)).mono B2.out.size))))
    clear b2 f2
    go_wp2_with ((at_builtin; refine wpList_append_any _ rfl _ _ 27 rfl w2.heap.size 9 i0 (.string ByteArray.empty) 1 16 Try.underlying27 HI.out.1 HI.out.2.1 HI.out.2.2.1 HI.out.2.2.2 rfl (by decide) _ 0 [] rfl (World.ownsRow_made w2 #[] 0 (Nat.le_refl _) (Nat.zero_le _) rfl) q ss.length d (strCells ss) rfl (by rw [length_strCells]) HX.out.2 (strCells_one ss) HM.out.1 HM.out.2 (by simp) ?_; intro p' cap' w3 hown hgrow hblk; have O3 := Lib.hid (strs_own rfl hown); have B3 := Lib.hid (own_below hgrow); clear hown hgrow hblk))
    refine (CL.out _ _ _ (F2.out.below B3.out) O3.out).mono ?_
    rintro e w4 ⟨v4, rfl, i4, b4⟩
    obtain ⟨p4, c4, rfl⟩ := ints_form i4
    have B4 := Lib.hid (B2.out.trans ((B3.out.trans (b4.mono B3.out.size)).mono B2.out.size))
    have I4 := Lib.hid i4
    clear b4 i4 O3 F2 HX
    by_cases hx : x = 0
    · subst hx
      obtain ⟨gs, _, _, g3, g4⟩ := OKS.out rfl
      have hm := (fixes_mem g3).1
      have FL := Lib.hid (fun v W h => flat_any v xs W h (by omega))
      rw [flatA_bind g4] at FL
      have EV := Lib.hid (fun i => rowL_even gs.length 0 i)
      have OD := Lib.hid (fun i => rowL_odd gs.length 0 i)
      have NL := rowL_len gs.length 0
      have XL := bindL_len g4
      obtain ⟨ys, hys⟩ : ∃ ys, ys = rowL 0 gs.length := ⟨_, rfl⟩
      rw [← hys] at FL EV OD NL
      rw [hm] at EV OD NL XL
      have HX := Lib.hid (ints_src (I4.out.below ((Below.refl _ _).alloc (Nat.le_refl _) (.cells #[] 3))))
      have HN : Hid (0 + xs.length ≤ maxLen ∧ (0 + xs.length) * 8 ≤ 140737488355328) := Lib.hid ⟨by unfold maxLen; omega, by omega⟩
      obtain ⟨m, hmm⟩ : ∃ m, m = ss.length := ⟨_, rfl⟩
      rw [← hmm] at EV OD NL XL M420 ⊢
      obtain ⟨N, hN⟩ : ∃ N, N = xs.length := ⟨_, rfl⟩
      have NX := Lib.hid hN
      rw [← hN] at XL HN ⊢
      have YL := Lib.hid NL
      have XH := Lib.hid XL
      clear hys hmm hm g3 g4 NL XL hN
      go_wp2_with ((at_builtin; refine wpList_append_any _ rfl _ _ 38 rfl w4.heap.size 3 i1 (.int .i64 0) 1 8 Try.underlying38 HJ.out.1 HJ.out.2.1 HJ.out.2.2.1 HJ.out.2.2.2 rfl (by decide) _ 0 [] rfl (World.ownsRow_made w4 #[] 0 (Nat.le_refl _) (Nat.zero_le _) rfl) p4 N c4 (intCells xs) rfl (by rw [length_intCells, NX.out]) (by rw [NX.out]; exact HX.out.2) (intCells_one xs) HN.out.1 HN.out.2 (by simp) ?_; intro p' cap' w5 hown hgrow hblk; have O5 := Lib.hid (ints_own NX.out.symm hown); have B5 := Lib.hid (B4.out.trans ((own_below hgrow).mono B4.out.size)); clear hown hgrow hblk))
      refine (FL.out _ _ O5.out).mono ?_
      rintro e w6 ⟨b6, v6, rfl, i6⟩
      obtain ⟨p6, c6, rfl⟩ := ints_form i6
      have B6 := Lib.hid (B5.out.trans (b6.mono B5.out.size))
      rw [YL.out, ← XH.out] at i6 ⊢
      have XL := XH.out
      obtain ⟨bb, off, rfl, hbb, hcc⟩ := ints_at i6 (by omega)
      have HC := Lib.hid hcc
      have t1 : ((N : Int) != 2 * (m : Int) + 1) = false := by simp; omega
      have t2 : ((N : Int) != (N : Int)) = false := by simp
      clear b6 i6 hcc XL
      go_wp2
      go_loopw [9] (fun s9 wr => ∃ (k : Nat), k ≤ N ∧ s9 = .int .i64 k ∧ wr = w6) (fun s9 _ => N - (intOf s9).toNat)
      case atStart => exact ⟨0, Nat.zero_le _, rfl, rfl⟩
      case round =>
        obtain ⟨k, hk, rfl, rfl⟩ := hrel
        by_cases hlt : k < N
        · have q0 := HC.out.int k (by rw [YL.out, ← XH.out]; exact hlt)
          have XK := XH.out
          rcases Nat.mod_two_eq_zero_or_one k with hm2 | hm2
          · obtain ⟨j, rfl⟩ : ∃ j, k = 2 * j := ⟨k / 2, by omega⟩
            rw [EV.out j (by omega)] at q0
            have s1 : ((2 * j : Nat) : Int) < (N : Int) := by omega
            have jb : j ≤ 420 := by omega
            have kb : 2 * j ≤ 840 := by omega
            clear XK hm2 hk
            go_wp2
            go_roundw
            case rel => exact ⟨2 * j + 1, by omega, by go_num, by first | trivial | rfl⟩
            case measure => simp [intOf]; omega
          · obtain ⟨j, rfl⟩ : ∃ j, k = 2 * j + 1 := ⟨k / 2, by omega⟩
            rw [OD.out j (by omega)] at q0
            have s1 : ((2 * j + 1 : Nat) : Int) < (N : Int) := by omega
            have jb : j ≤ 420 := by omega
            have kb : 2 * j + 1 ≤ 841 := by omega
            clear XK hm2 hk
            go_wp2
            go_roundw
            case rel => exact ⟨2 * j + 2, by omega, by go_num, by first | trivial | rfl⟩
            case measure => simp [intOf]; omega
        · obtain rfl : k = N := by omega
          go_wp2
          go_ret
          exact ⟨rfl, B6.out⟩
    · have E : xs = [] := BAD.out hx
      subst E
      have g : (x == 0) = false := by simpa using hx
      have g' : (x != 0) = true := by simpa using hx
      simp only [List.length_nil]
      go_wp2
      go_ret
      exact ⟨rfl, B4.out⟩
end Go.Proofs.Ytkmgapieoedelaa
