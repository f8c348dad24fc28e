/- The walk of FixBinds. -/
import Derived.Test.YtkmgapieoedelaaHolds
namespace Go.Proofs.FixMath
theorem fixes_get {l : List Fx} : ∀ {ss : List ByteArray} {gs : List Fx}, fixesL l ss = some gs → ∀ i, i < ss.length → find l (ss.getD i default) = some (gs.getD i default) := by
  intro ss
  induction ss with
  | nil => intro gs _ i hi; simp at hi
  | cons s ss ih =>
    intro gs h i hi
    unfold fixesL at h
    cases h1 : find l s with
    | none => rw [h1] at h; simp at h
    | some f =>
      cases h2 : fixesL l ss with
      | none => rw [h1, h2] at h; simp at h
      | some fs =>
        rw [h1, h2] at h
        simp at h
        subst h
        cases i with
        | zero => simpa using h1
        | succ i => simpa using ih h2 i (by simpa using hi)
end Go.Proofs.FixMath
namespace Go.Proofs.Ytkmgapieoedelaa
open Go.Shelf Go.RowKit Go.Lib Go.Sort Go.Proofs.FixMath

set_option maxRecDepth 100000 in
set_option maxHeartbeats 4000000 in
theorem binds_walk (v u : Value) (l : List Fx) (ss : List ByteArray) (w : World) (h1 : FixAt w v l) (h2 : StrsAt w u ss) : Calls Try.prog 7 #[v, u] w (RB true w) := by
  obtain ⟨p, c, rfl⟩ := fix_form h1
  obtain ⟨q, d, rfl⟩ := strs_form h2
  have FW := fun W b => few_any _ _ l ss W (FixAt.below h1 b) (StrsAt.below h2 b)
  cases hf : fewB l ss with
  | false =>
    rw [hf] at FW
    have FF := Lib.hid FW
    clear FW hf h1 h2
    go_enter Try.func7, Try.ntmps7
    go_wp2_with fail
    refine (awake_any _).mono ?_
    rintro e w1 ⟨rfl, b1⟩
    have B1 := Lib.hid b1
    clear b1
    go_wp2_with fail
    refine (FF.out _ B1.out).mono ?_
    rintro e w2 ⟨rfl, rfl⟩
    go_wp2_with fail
    refine (awake_any _).mono ?_
    rintro e w2 ⟨rfl, b2⟩
    go_wp2
    go_ret
    exact ⟨rfl, B1.out.trans (b2.mono B1.out.size)⟩
  | true =>
    rw [hf] at FW
    have FF := Lib.hid FW
    obtain ⟨a1, a2, a3, a4⟩ := few_all hf
    have SM : Small l := fun f hf => Nat.le_trans (a3 f hf) (by omega)
    have CL := Lib.hid (fun v u W h1 h2 => climbs_any v u l ss W h1 h2 (by omega) (by omega) SM)
    have CR := Lib.hid (fun v u W h1 h2 => rclimbs_any v u l ss W h1 h2 (by omega) (by omega) SM)
    have ON := Lib.hid (fun W (b : Below w.heap.size w W) => own_any _ l W (h1.below b) (by omega))
    have H1 := Lib.hid h1
    have H2 := Lib.hid h2
    have LE := climb_len rightF l ss
    have OKS := Lib.hid (@climb_ok rightF l ss)
    have BAD := Lib.hid (@climb_bad rightF l ss)
    obtain ⟨R, hR⟩ : ∃ R, R = climbL rightF l ss := ⟨_, rfl⟩
    rw [← hR] at CL CR LE OKS BAD
    obtain ⟨xs, x⟩ := R
    have LX : xs.length ≤ 2 * ss.length + 1 := LE
    clear LE
    have RW := Lib.hid (fun v u W h1 h2 => row_any v u xs xs W h1 h2 (by omega))
    rw [show decide (xs = xs) = true by simp] at RW
    have HM : Hid (0 + ss.length ≤ maxLen ∧ (0 + ss.length) * 16 ≤ 140737488355328) := Lib.hid ⟨by unfold maxLen; omega, by omega⟩
    obtain ⟨i0, hi, hz0, hz1, hz2⟩ := infoStr
    have HI := Lib.hid (And.intro hi (And.intro hz0 (And.intro hz1 hz2)))
    clear hi hz0 hz1 hz2 FW hf h1 h2 hR a1 a3 a4 SM
    by_cases h40 : ss.length ≤ 40
    · have dA : decide ((40 : Int) < (ss.length : Int)) = false := by simp; omega
      have dB : decide (40 < ss.length) = false := by simp; omega
      go_enter Try.func7, Try.ntmps7
      go_wp2_with fail
      refine (awake_any _).mono ?_
      rintro e w1 ⟨rfl, b1⟩
      have B1 := Lib.hid b1
      clear b1
      go_wp2_with fail
      refine (FF.out _ B1.out).mono ?_
      rintro e w2 ⟨rfl, rfl⟩
      go_wp2_with fail
      refine (ON.out _ B1.out).mono ?_
      rintro e w2 ⟨v2, rfl, f2, b2⟩
      obtain ⟨p2, c2, rfl⟩ := fix_form f2
      have F2 := Lib.hid f2
      have B2 := Lib.hid (B1.out.trans (b2.mono B1.out.size))
      have HX := Lib.hid (strs_src (H2.out.below (B2.out.trans (((Below.refl _ _).alloc (Nat.le_refl _) (.cells #[] 9)).mono B2.out.size))))
      clear b2 f2
      go_wp2_with ((at_builtin; refine wpList_append_any _ rfl _ _ 27 rfl w2.heap.size 9 i0 (.string ByteArray.empty) 1 16 Try.underlying27 HI.out.1 HI.out.2.1 HI.out.2.2.1 HI.out.2.2.2 rfl (by decide) _ 0 [] rfl (World.ownsRow_made w2 #[] 0 (Nat.le_refl _) (Nat.zero_le _) rfl) q ss.length d (strCells ss) rfl (by rw [length_strCells]) HX.out.2 (strCells_one ss) HM.out.1 HM.out.2 (by simp) ?_; intro p' cap' w3 hown hgrow hblk; have O3 := Lib.hid (strs_own rfl hown); have B3 := Lib.hid (own_below hgrow); clear hown hgrow hblk))
      refine (CL.out _ _ _ (F2.out.below B3.out) O3.out).mono ?_
      rintro e w4 ⟨v4, rfl, i4, b4⟩
      obtain ⟨p4, c4, rfl⟩ := ints_form i4
      have B4 := Lib.hid (B2.out.trans ((B3.out.trans (b4.mono B3.out.size)).mono B2.out.size))
      have I4 := Lib.hid i4
      clear b4 i4 O3 F2 HX
      by_cases hx : x = 0
      · subst hx
        obtain ⟨gs, g1, g2, g3, g4⟩ := OKS.out rfl
        have hm := fixes_mem g3
        have ok := check_ok g1
        have GET := fixes_get g3
        have HO := holds_any l ss xs (by omega) (by omega) (by omega) gs.length gs 0 xs [] [] (Nat.le_refl _) g4 (by simp) (fun i hi => by rw [Nat.zero_add]; exact GET i (by rw [← hm.1]; exact hi)) (by rw [hm.1]; omega) (fun f hf => fine_of (ok.2.1 f (hm.2 f hf)))
        have CH : Hid (Calls Try.prog 27 #[.slice p l.length c, .slice q ss.length d, .slice p4 xs.length c4, .int .i64 0] w4 (IRet xs.length w4)) := Lib.hid (by
          have := HO w4 _ _ _ (H1.out.below B4.out) (H2.out.below B4.out) I4.out
          rw [List.length_nil, Nat.zero_add] at this
          exact this)
        have t2 : ((xs.length : Int) == (xs.length : Int)) = true := by simp
        clear g1 g2 g3 g4 hm ok GET HO
        go_wp2_with fail
        refine CH.out.mono ?_
        rintro e w5 ⟨rfl, b5⟩
        go_wp2
        go_ret
        exact ⟨rfl, B4.out.trans (b5.mono B4.out.size)⟩
      · have g : (x == 0) = false := by simpa using hx
        have g' : (x != 0) = true := by simpa using hx
        go_wp2
        go_ret
        exact ⟨rfl, B4.out⟩
    · have dA : decide ((40 : Int) < (ss.length : Int)) = true := by simp; omega
      have dB : decide (40 < ss.length) = true := by simp; omega
      clear h40
      go_enter Try.func7, Try.ntmps7
      go_wp2_with fail
      refine (awake_any _).mono ?_
      rintro e w1 ⟨rfl, b1⟩
      have B1 := Lib.hid b1
      clear b1
      go_wp2_with fail
      refine (FF.out _ B1.out).mono ?_
      rintro e w2 ⟨rfl, rfl⟩
      go_wp2_with fail
      refine (awake_any _).mono ?_
      rintro e w2 ⟨rfl, b2⟩
      go_wp2
      go_ret
      exact ⟨rfl, B1.out.trans (b2.mono B1.out.size)⟩
end Go.Proofs.Ytkmgapieoedelaa
