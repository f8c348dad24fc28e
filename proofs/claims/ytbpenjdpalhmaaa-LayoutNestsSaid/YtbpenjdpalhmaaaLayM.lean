/- The printer: move. -/
import Derived.Test.YtbpenjdpalhmaaaLayP
namespace Go.Proofs.Ytbpenjdpalhmaaa
open Go.Shelf Go.RowKit Go.Lib Go.Sort Go.Proofs.TreeMath Go.Proofs.LayoutMath
attribute [local go_sem] run_store_complex
theorem rep_one (x : UInt8) (d : Nat) : Lib.repeatL [x] d = List.replicate d x := by
  have := Lib.repeatL_replicate x 1 d
  simpa using this
theorem rep_blank (d : Nat) : (⟨(Lib.repeatL [32] d).toArray⟩ : ByteArray).data.toList = List.replicate d 32 := by
  rw [rep_one]
set_option maxHeartbeats 4000000 in
theorem move_flat (W : World) (b p : Nat) (dv : Value) (S n : Nat) (f : Nat → Value) (wd : Int) (l : List UInt8) (c y c2 : Nat) (w : World) (h : PS W b p dv S n f wd l c y w) (hcc : c ≤ c2) (hc : c2 ≤ 100000000000000) (hy : y < 2 ^ 53) (hl : l.length ≤ 10000000000000) :
    Calls Try.prog 48 #[.pointer (some ⟨p, 0, none⟩), .complex .f64 (flt c2) (flt y)] w fun e w' => e = .returned (.tuple #[]) ∧ PS W b p dv S n f wd (l ++ List.replicate (c2 - c) 32) c2 y w' ∧ Kp b p w w' := by
  have hs : cSumBits .sub .f64 (flt c2) (flt y) (flt c) (flt y) = some (flt (c2 - c), flt 0) := by
    unfold cSumBits
    rw [flt_sub hcc (by omega), flt_sub (Nat.le_refl y) hy, Nat.sub_self]
    rfl
  have hop : ∀ w, (binOp .sub 65 (.complex .f64 (flt c2) (flt y)) (.complex .f64 (flt c) (flt y))).run Try.prog w = .ok (.complex .f64 (flt (c2 - c)) (flt 0)) w := fun w => run_complex_sum w .sub (.inr rfl) 65 .f64 _ _ _ _ _ _ hs
  have hcv : ∀ w, (convert 76 3 (.float .f64 (flt 0))).run Try.prog w = .ok (.int .i64 ((0 : Nat) : Int)) w := fun w => run_convert_float_int w 76 3 .f64 .i64 _ _ rfl Try.underlying3 (flt_int (by omega))
  have hsub : ∀ w, (binOp .sub 76 (.float .f64 (flt c2)) (.float .f64 (flt c))).run Try.prog w = .ok (.float .f64 (flt (c2 - c))) w := fun w => run_float_arith w .sub 76 .f64 _ _ _ (flt_sub hcc (by omega))
  have hcd : ∀ w, (convert 76 3 (.float .f64 (flt (c2 - c)))).run Try.prog w = .ok (.int .i64 ((c2 - c : Nat) : Int)) w := fun w => run_convert_float_int w 76 3 .f64 .i64 _ _ rfl Try.underlying3 (flt_int (by omega))
  obtain ⟨_, _, _, c3, c4, f3⟩ := h.cells
  have R := Lib.hid (fun W => repeat_any ⟨#[32]⟩ (c2 - c) W (by omega) (by show 1 * (c2 - c) ≤ _; omega))
  have H := Lib.hid h
  clear h hs
  obtain ⟨d, hd⟩ : ∃ d, d = c2 - c := ⟨_, rfl⟩
  rw [← hd] at hop hsub hcd R ⊢
  have hdb : d ≤ 100000000000000 := by omega
  clear hd
  have LEN : Hid (l.length + (⟨(Lib.repeatL [32] d).toArray⟩ : ByteArray).size ≤ 140737488355328) := Lib.hid (by
    show l.length + (Lib.repeatL [32] d).toArray.size ≤ _
    rw [List.size_toArray, Lib.repeatL_length]
    simp
    omega)
  clear hl
  go_enter Try.func48, Try.ntmps48
  go_wp2
  have hpl := H.out.lt
  go_region_with (first
    | (go_at_call 56; refine (R.out _).mono ?_; rintro e w1 ⟨rfl, b1⟩; have d4 := (b1.cell (p := ⟨p, 4, none⟩) (by simpa using hpl)).trans c4; have B1 := Lib.hid b1; clear b1)
    | (go_at_call 36; refine (put_any W b p dv S n f wd l c y _ _ (H.out.below ((Below.refl _ _).drew.trans B1.out)) LEN.out).mono ?_; (rintro e w2 ⟨rfl, ps2, kp2⟩; have P2 := Lib.hid ps2; have K2 := Lib.hid kp2; clear ps2 kp2)))
  all_goals
    obtain ⟨_, _, _, e3, _, g3⟩ := P2.out.cells
    have eR : (⟨(Lib.repeatL [32] d).toArray⟩ : ByteArray).data.toList = List.replicate d 32 := rep_blank d
    have ER := Lib.hid eR
    clear eR
    go_wp2
    go_end0
    refine ⟨rfl, ?_, (Kp.of_below ((Below.refl _ _).drew.trans B1.out)).trans (K2.out.trans (Kp.setCell _ _ _))⟩
    have := P2.out.put c2 y
    rw [ER.out] at this
    exact this
end Go.Proofs.Ytbpenjdpalhmaaa
