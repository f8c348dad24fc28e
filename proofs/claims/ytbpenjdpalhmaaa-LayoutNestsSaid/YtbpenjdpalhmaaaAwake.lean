/- The chapter's example. -/
import Derived.Test.YtbpenjdpalhmaaaLayD
namespace Go.Proofs.Ytbpenjdpalhmaaa
open Go.Shelf Go.RowKit Go.Lib Go.Sort Go.Proofs.TreeMath
def nA : Nd := ⟨41, ⟨#[97]⟩, 0, 0⟩
def nB : Nd := ⟨41, ⟨#[98]⟩, 0, 0⟩
def nL : Nd := ⟨42, ByteArray.empty, 0, 0⟩
def nN : Nd := ⟨43, ByteArray.empty, 2, 1⟩
def nC : Nd := ⟨45, ByteArray.empty, 0, 3⟩
def nG : Nd := ⟨44, ByteArray.empty, 0, 1⟩
def awk : List Nd := [nG, nC, nA, nN, nL, nB]
def fA : F := .cons nG (.cons nC (.cons nA .nil (.cons nN (.cons nL .nil .nil) (.cons nB .nil .nil))) .nil) .nil
theorem awk_ok : docB awk = true := by decide +kernel
theorem awk_doc : IsDoc fA awk := by
  refine ⟨?_, rfl, rfl, ?_, by decide, awk_ok⟩
  · simp [fA, F.ok, F.cnt, nG, nC, nA, nN, nL, nB]
  · refine fine_flat fA fun n hn => ?_
    have h : fA.flat = awk := rfl
    rw [h] at hn
    refine ⟨List.all_eq_true.1 (show awk.all okN = true by decide +kernel) n hn, ?_⟩
    have : ∀ n ∈ awk, n.text.size ≤ 1000000 := by decide +kernel
    exact this n hn
theorem awk3 : layT 3 fA 0 0 false = [97, 32, 98] := by decide +kernel
theorem awk2 : layT 2 fA 0 0 false = [97, 10, 32, 32, 98] := by decide +kernel
theorem awkF : flatT fA = [97, 32, 98] := by decide +kernel
set_option maxHeartbeats 4000000 in
theorem awake_any (w : World) : Calls Try.prog 8 #[] w (RB true w) := by
  have TA := Lib.hid (fun W => text_any ⟨#[97]⟩ W)
  have TB := Lib.hid (fun W => text_any ⟨#[98]⟩ W)
  have TL := Lib.hid (fun W => line_any W)
  have TN := Lib.hid (fun v W h => nest_any 2 v [nL] W h (by simp))
  have TC := Lib.hid (fun v W h => cat_any v [[nA], [nN, nL], [nB]] W h ⟨by decide, by decide⟩)
  have TG := Lib.hid (fun v W h => group_any v [nC, nA, nN, nL, nB] W h (by decide))
  have L3 := Lib.hid (fun v W (h : NodesAt W v awk) => layout_yes v awk fA 3 W h awk_doc (by omega) (by omega))
  have L2 := Lib.hid (fun v W (h : NodesAt W v awk) => layout_yes v awk fA 2 W h awk_doc (by omega) (by omega))
  have LF := Lib.hid (fun v W (h : NodesAt W v awk) => flat_yes v awk fA W h awk_doc)
  have LC := Lib.hid (fun v W (h : NodesAt W v awk) => check_any v awk W h (by decide))
  rw [awk3] at L3
  rw [awk2] at L2
  rw [awkF] at LF
  rw [chk_yes awk_ok] at LC
  go_enter Try.func8, Try.ntmps8
  go_wp2_with fail
  refine (TA.out _).mono ?_
  rintro e w1 ⟨v1, rfl, h1, b1⟩
  have H1 := Lib.hid h1
  have B1 := Lib.hid b1
  clear h1 b1
  go_wp2_with fail
  refine (TL.out _).mono ?_
  rintro e w2 ⟨v2, rfl, h2, b2⟩
  have H2 := Lib.hid h2
  have B2 := Lib.hid (B1.out.trans (b2.mono B1.out.size))
  have HA := Lib.hid (H1.out.below b2)
  clear h2 b2 H1 B1
  go_wp2_with fail
  refine (TN.out _ _ H2.out).mono ?_
  rintro e w3 ⟨v3, rfl, h3, b3⟩
  rw [show makeN ⟨43, ByteArray.empty, 2, 0⟩ [[nL]] = [nN, nL] from rfl] at h3
  have H3 := Lib.hid h3
  have B3 := Lib.hid (B2.out.trans (b3.mono B2.out.size))
  have HA3 := Lib.hid (HA.out.below b3)
  clear h3 b3 B2 HA
  go_wp2_with fail
  refine (TB.out _).mono ?_
  rintro e w4 ⟨v4, rfl, h4, b4⟩
  have H4 := Lib.hid h4
  have B4 := Lib.hid (B3.out.trans (b4.mono B3.out.size))
  have HA4 := Lib.hid (HA3.out.below b4)
  have HN4 := Lib.hid (H3.out.below b4)
  clear h4 b4 B3 HA3 H3
  obtain ⟨p1, q1, rfl⟩ := node_form HA4.out
  obtain ⟨p3, q3, rfl⟩ := node_form HN4.out
  obtain ⟨p4, q4, rfl⟩ := node_form H4.out
  have hL : ListsAt (w4.alloc (.cells #[.slice p1 1 q1, .slice p3 2 q3, .slice p4 1 q4] 22)) (.slice (some ⟨w4.heap.size, 0, none⟩) 3 3) [[nA], [nN, nL], [nB]] :=
    lists_lit w4 [.slice p1 1 q1, .slice p3 2 q3, .slice p4 1 q4] 22 [[nA], [nN, nL], [nB]] rfl (by simp) (fun i hi => by
      match i, hi with
      | 0, _ => exact HA4.out
      | 1, _ => exact HN4.out
      | 2, _ => exact H4.out)
  have B5 := Lib.hid (B4.out.alloc B4.out.size (.cells #[.slice p1 1 q1, .slice p3 2 q3, .slice p4 1 q4] 22))
  have TC5 := Lib.hid (TC.out _ _ hL)
  clear hL
  go_wp2_with fail
  refine TC5.out.mono ?_
  rintro e w5 ⟨v5, rfl, h5, b5⟩
  rw [show makeN ⟨45, ByteArray.empty, 0, 0⟩ [[nA], [nN, nL], [nB]] = [nC, nA, nN, nL, nB] from rfl] at h5
  have H5 := Lib.hid h5
  have B6 := Lib.hid (B5.out.trans (b5.mono B5.out.size))
  clear h5 b5
  go_wp2_with fail
  refine (TG.out _ _ H5.out).mono ?_
  rintro e w6 ⟨v6, rfl, h6, b6⟩
  rw [show makeN ⟨44, ByteArray.empty, 0, 0⟩ [[nC, nA, nN, nL, nB]] = awk from rfl] at h6
  have B7 := Lib.hid (B6.out.trans (b6.mono B6.out.size))
  have H6 := Lib.hid h6
  clear h6 b6 TA TB TL TN TC TG TC5 HA4 HN4 H4 H2 H5 B4 B5 B6
  go_wp2_with fail
  refine (L3.out _ _ H6.out).mono ?_
  rintro e w7 ⟨rfl, b7⟩
  have B8 := Lib.hid (B7.out.trans (b7.mono B7.out.size))
  have H7 := Lib.hid (H6.out.below b7)
  clear b7 H6
  go_wp2_with fail
  refine (L2.out _ _ H7.out).mono ?_
  rintro e w8 ⟨rfl, b8⟩
  have B9 := Lib.hid (B8.out.trans (b8.mono B8.out.size))
  have H8 := Lib.hid (H7.out.below b8)
  clear b8 H7
  go_wp2_with fail
  refine (LF.out _ _ H8.out).mono ?_
  rintro e w9 ⟨rfl, b9⟩
  have BA := Lib.hid (B9.out.trans (b9.mono B9.out.size))
  have H9 := Lib.hid (H8.out.below b9)
  clear b9 H8
  go_wp2_with fail
  refine (LC.out _ _ H9.out).mono ?_
  rintro e wa ⟨rfl, ba⟩
  have BB := Lib.hid (BA.out.trans (ba.mono BA.out.size))
  clear ba
  go_wp2_with fail
  go_ret
  exact ⟨rfl, BB.out⟩
end Go.Proofs.Ytbpenjdpalhmaaa
