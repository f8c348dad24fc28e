/- The printer: move to another line. -/
import Derived.Test.YtbpenjdpalhmaaaLayM
namespace Go.Proofs.Ytbpenjdpalhmaaa
open Go.Shelf Go.RowKit Go.Lib Go.Sort Go.Proofs.TreeMath Go.Proofs.LayoutMath
attribute [local go_sem] run_store_complex
set_option maxHeartbeats 4000000 in
theorem move_line (W : World) (b p : Nat) (dv : Value) (S n : Nat) (f : Nat → Value) (wd : Int) (l : List UInt8) (c y c2 : Nat) (w : World) (h : PS W b p dv S n f wd l c y w) (hcc : c < 2 ^ 53) (hc : c2 ≤ 10000000000000) (hy : y + 1 < 2 ^ 53) (hl : l.length ≤ 10000000000000) :
    Calls Try.prog 48 #[.pointer (some ⟨p, 0, none⟩), .complex .f64 (flt c2) (flt (y + 1))] w fun e w' => e = .returned (.tuple #[]) ∧ PS W b p dv S n f wd (l ++ 10 :: List.replicate c2 32) c2 (y + 1) w' ∧ Kp b p w w' := by
  obtain ⟨r, hr⟩ := flt_sub_some (a := c2) (b := c) (by omega) hcc
  have hs : cSumBits .sub .f64 (flt c2) (flt (y + 1)) (flt c) (flt y) = some (r, flt 1) := by
    unfold cSumBits
    rw [hr, flt_sub (by omega) hy, show y + 1 - y = 1 by omega]
    rfl
  have hop : ∀ w, (binOp .sub 65 (.complex .f64 (flt c2) (flt (y + 1))) (.complex .f64 (flt c) (flt y))).run Try.prog w = .ok (.complex .f64 r (flt 1)) w := fun w => run_complex_sum w .sub (.inr rfl) 65 .f64 _ _ _ _ _ _ hs
  have hcv : ∀ w, (convert 76 3 (.float .f64 (flt 1))).run Try.prog w = .ok (.int .i64 ((1 : Nat) : Int)) w := fun w => run_convert_float_int w 76 3 .f64 .i64 _ _ rfl Try.underlying3 (flt_int (by omega))
  have hsub : ∀ w, (binOp .sub 76 (.float .f64 (flt c2)) (.float .f64 0)).run Try.prog w = .ok (.float .f64 (flt c2)) w := fun w => run_float_arith w .sub 76 .f64 _ _ _ (by rw [← flt_zero, flt_sub (Nat.zero_le _) (by omega), Nat.sub_zero])
  have hcd : ∀ w, (convert 76 3 (.float .f64 (flt c2))).run Try.prog w = .ok (.int .i64 ((c2 : Nat) : Int)) w := fun w => run_convert_float_int w 76 3 .f64 .i64 _ _ rfl Try.underlying3 (flt_int (by omega))
  obtain ⟨_, _, _, c3, c4, f3⟩ := h.cells
  have R1 := Lib.hid (fun W => repeat_any ⟨#[10]⟩ 1 W (by omega) (by decide))
  have R := Lib.hid (fun W => repeat_any ⟨#[32]⟩ c2 W (by omega) (by show 1 * c2 ≤ _; omega))
  have LEN1 : Hid (l.length + (⟨(Lib.repeatL [10] 1).toArray⟩ : ByteArray).size ≤ 140737488355328) := Lib.hid (by
    show l.length + 1 ≤ _
    omega)
  have LEN : Hid ((l ++ [10]).length + (⟨(Lib.repeatL [32] c2).toArray⟩ : ByteArray).size ≤ 140737488355328) := Lib.hid (by
    show (l ++ [10]).length + (Lib.repeatL [32] c2).toArray.size ≤ _
    rw [List.size_toArray, Lib.repeatL_length]
    simp
    omega)
  have H := Lib.hid h
  have HSUB := Lib.hid hsub
  have HCD := Lib.hid hcd
  have hpl := h.lt
  clear h hs hr hsub hcd hl
  have hzz : ((1 : Nat) : Int) = 1 := rfl
  go_enter Try.func48, Try.ntmps48
  go_upto_region 3 with fail
  go_cut [] from 21 to 27 (fun wx => PS W b p dv S n f wd (l ++ [10]) c y wx ∧ Kp b p w wx)
  case first =>
    go_region_with (first
      | (go_at_call 56; refine (R1.out _).mono ?_; rintro e w1 ⟨rfl, b1⟩; have d4 := (b1.cell (p := ⟨p, 4, none⟩) (by simpa using hpl)).trans c4; have B1 := Lib.hid b1; clear b1)
      | (go_at_call 36; refine (put_any W b p dv S n f wd l c y _ _ (H.out.below ((Below.refl _ _).drew.trans B1.out)) LEN1.out).mono ?_; (rintro e w2 ⟨rfl, ps2, kp2⟩; have P2 := Lib.hid ps2; have K2 := Lib.hid kp2; clear ps2 kp2)))
    all_goals
      go_wp2_with fail
      go_meet
      case rel => exact ⟨P2.out, (Kp.of_below ((Below.refl _ _).drew.trans B1.out)).trans K2.out⟩
  case rest =>
    obtain ⟨h1, k1⟩ := hcut
    obtain ⟨_, _, _, e3, e4, g3⟩ := h1.cells
    have hpl2 := h1.lt
    have H1 := Lib.hid h1
    have K1 := Lib.hid k1
    have hsub := HSUB.out
    have hcd := HCD.out
    clear h1 k1 c3 c4 f3 hpl hop hcv
    go_wp2_with fail
    go_region_with (first
      | (go_at_call 56; refine (R.out _).mono ?_; rintro e w1 ⟨rfl, b1⟩; have d4 := (b1.cell (p := ⟨p, 4, none⟩) (by simpa using hpl2)).trans e4; have B1 := Lib.hid b1; clear b1)
      | (go_at_call 36; refine (put_any W b p dv S n f wd (l ++ [10]) c y _ _ (H1.out.below ((Below.refl _ _).drew.trans B1.out)) LEN.out).mono ?_; (rintro e w2 ⟨rfl, ps2, kp2⟩; have P2 := Lib.hid ps2; have K2 := Lib.hid kp2; clear ps2 kp2)))
    all_goals
      obtain ⟨_, _, _, e3, _, g3⟩ := P2.out.cells
      have eR : (⟨(Lib.repeatL [32] c2).toArray⟩ : ByteArray).data.toList = List.replicate c2 32 := rep_blank c2
      have ER := Lib.hid eR
      clear eR
      go_wp2
      go_end0
      refine ⟨rfl, ?_, K1.out.trans ((Kp.of_below ((Below.refl _ _).drew.trans B1.out)).trans (K2.out.trans (Kp.setCell _ _ _)))⟩
      have := P2.out.put c2 (y + 1)
      rw [ER.out] at this
      simpa using this
end Go.Proofs.Ytbpenjdpalhmaaa
