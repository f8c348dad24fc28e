/- The walk of FixClimbs. -/
import Derived.Test.YtkmgapieoedelaaFixY
namespace Go.Proofs.Ytkmgapieoedelaa
open Go.Shelf Go.RowKit Go.Lib Go.Sort Go.Proofs.FixMath

set_option maxRecDepth 100000 in
set_option maxHeartbeats 4000000 in
theorem climbs_walk (v u : Value) (l : List Fx) (ss : List ByteArray) (w : World) (h1 : FixAt w v l) (h2 : StrsAt w u ss) : Calls Try.prog 4 #[v, u] w (RB true w) := by
  obtain ⟨p, c, rfl⟩ := fix_form h1
  obtain ⟨q, d, rfl⟩ := strs_form h2
  have FW := fun W b => few_any _ _ l ss W (FixAt.below h1 b) (StrsAt.below h2 b)
  cases hf : fewB l ss with
  | false =>
    rw [hf] at FW
    have FF := Lib.hid FW
    clear FW hf h1 h2
    go_enter Try.func4, Try.ntmps4
    go_wp2_with fail
    refine (awake_any _).mono ?_
    rintro e w1 ⟨rfl, b1⟩
    have B1 := Lib.hid b1
    clear b1
    go_wp2_with fail
    refine (FF.out _ B1.out).mono ?_
    rintro e w2 ⟨rfl, rfl⟩
    go_wp2_with fail
    refine (awake_any _).mono ?_
    rintro e w2 ⟨rfl, b2⟩
    go_wp2
    go_ret
    exact ⟨rfl, B1.out.trans (b2.mono B1.out.size)⟩
  | true =>
    rw [hf] at FW
    have FF := Lib.hid FW
    obtain ⟨a1, a2, a3, a4⟩ := few_all hf
    have SM : Small l := fun f hf => Nat.le_trans (a3 f hf) (by omega)
    have CL := Lib.hid (fun v u W h1 h2 => climbs_any v u l ss W h1 h2 (by omega) (by omega) SM)
    have CR := Lib.hid (fun v u W h1 h2 => rclimbs_any v u l ss W h1 h2 (by omega) (by omega) SM)
    have ON := Lib.hid (fun W (b : Below w.heap.size w W) => own_any _ l W (h1.below b) (by omega))
    have H1 := Lib.hid h1
    have H2 := Lib.hid h2
    have LE := climb_len rightF l ss
    have OKS := Lib.hid (@climb_ok rightF l ss)
    have BAD := Lib.hid (@climb_bad rightF l ss)
    obtain ⟨R, hR⟩ : ∃ R, R = climbL rightF l ss := ⟨_, rfl⟩
    rw [← hR] at CL CR LE OKS BAD
    obtain ⟨xs, x⟩ := R
    have LX : xs.length ≤ 2 * ss.length + 1 := LE
    clear LE
    have RW := Lib.hid (fun v u W h1 h2 => row_any v u xs xs W h1 h2 (by omega))
    rw [show decide (xs = xs) = true by simp] at RW
    have HM : Hid (0 + ss.length ≤ maxLen ∧ (0 + ss.length) * 16 ≤ 140737488355328) := Lib.hid ⟨by unfold maxLen; omega, by omega⟩
    obtain ⟨i0, hi, hz0, hz1, hz2⟩ := infoStr
    have HI := Lib.hid (And.intro hi (And.intro hz0 (And.intro hz1 hz2)))
    clear hi hz0 hz1 hz2 FW hf h1 h2 hR a1 a3 a4 SM
    go_enter Try.func4, Try.ntmps4
    go_wp2_with fail
    refine (awake_any _).mono ?_
    rintro e w1 ⟨rfl, b1⟩
    have B1 := Lib.hid b1
    clear b1
    go_wp2_with fail
    refine (FF.out _ B1.out).mono ?_
    rintro e w2 ⟨rfl, rfl⟩
    go_wp2_with fail
    refine (ON.out _ B1.out).mono ?_
    rintro e w2 ⟨v2, rfl, f2, b2⟩
    obtain ⟨p2, c2, rfl⟩ := fix_form f2
    have F2 := Lib.hid f2
    have B2 := Lib.hid (B1.out.trans (b2.mono B1.out.size))
    have HX := Lib.hid (strs_src (H2.out.below (B2.out.trans (((Below.refl _ _).alloc (Nat.le_refl _) (.cells #[] 9)).mono B2.out.size))))
    clear b2 f2
    go_wp2_with ((at_builtin; refine wpList_append_any _ rfl _ _ 27 rfl w2.heap.size 9 i0 (.string ByteArray.empty) 1 16 Try.underlying27 HI.out.1 HI.out.2.1 HI.out.2.2.1 HI.out.2.2.2 rfl (by decide) _ 0 [] rfl (World.ownsRow_made w2 #[] 0 (Nat.le_refl _) (Nat.zero_le _) rfl) q ss.length d (strCells ss) rfl (by rw [length_strCells]) HX.out.2 (strCells_one ss) HM.out.1 HM.out.2 (by simp) ?_; intro p' cap' w3 hown hgrow hblk; have O3 := Lib.hid (strs_own rfl hown); have B3 := Lib.hid (own_below hgrow); clear hown hgrow hblk))
    refine (CL.out _ _ _ (F2.out.below B3.out) O3.out).mono ?_
    rintro e w4 ⟨v4, rfl, i4, b4⟩
    obtain ⟨p4, c4, rfl⟩ := ints_form i4
    have B4 := Lib.hid (B2.out.trans ((B3.out.trans (b4.mono B3.out.size)).mono B2.out.size))
    have I4 := Lib.hid i4
    clear b4 i4 O3 F2 HX
    simp only
    go_wp2_with fail
    refine (CR.out _ _ _ (H1.out.below B4.out) (H2.out.below B4.out)).mono ?_
    rintro e w5 ⟨v5, rfl, i5, b5⟩
    obtain ⟨p5, c5, rfl⟩ := ints_form i5
    have B5 := Lib.hid (B4.out.trans (b5.mono B4.out.size))
    have C := Lib.hid (RW.out _ _ w5 (I4.out.below b5) i5)
    clear b5 i5
    have dd : (x == x) = true := by simp
    simp only
    go_wp2_with fail
    refine C.out.mono ?_
    rintro e w6 ⟨rfl, b6⟩
    go_wp2
    go_ret
    exact ⟨rfl, B5.out.trans (b6.mono B5.out.size)⟩
end Go.Proofs.Ytkmgapieoedelaa
