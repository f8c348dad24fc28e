/- Texts of this seat, one behind the other: ParT, Forest. -/
import Derived.Test.YtggjckalmlploaaGreatDoorKn36
import Derived.Deep.CutBlock
import Derived.Test.YtggjckalmlploaaGreatDoorKn01
/- The parser: exprs. -/
set_option maxRecDepth 100000
namespace Go.Proofs.YtggjckalmlploaaGreatDoor
open Go.Shelf Go.RowKit Go.Lib Go.Proofs.TreeMath Go.Proofs.LexMath Go.Proofs.FixMath Go.Proofs.ParMath
/-- A row is read so. -/
def ROK (C : Cfg) (p : Nat) (dp : Int) (F : Par) : Prop := ∀ s W, PS C p dp s W → Calls Tryz.prog 38 #[.pointer (some ⟨p, 0, none⟩)] W (NP C p dp (F s) W)
/-- A box that holds the parser. -/
def BoxP (p xb : Nat) (w : World) : Prop := xb ≠ p ∧ w.cell? ⟨xb, 0, none⟩ = some (.pointer (some ⟨p, 0, none⟩))
theorem BoxP.bar {p xb : Nat} {w w' : World} (h : BoxP p xb w) (b : Bar p w w') : BoxP p xb w' := ⟨h.1, by rw [b.cell (a := ⟨xb, 0, none⟩) (World.block_lt_of_cell? _ _ h.2) h.1]; exact h.2⟩
section
variable {C : Cfg} {E P : Par} {s : St}
theorem expr_c1  (h : sees [isKey wFun] s.rest = true) : exprB C E P s = formM C E P 5 rFun s := by unfold exprB; rw [if_pos h]
theorem expr_c2 (n1 : sees [isKey wFun] s.rest = false) (h : sees [isKey wLet, isKey wRec] s.rest = true) : exprB C E P s = formM C E P 8 rRec s := by unfold exprB; rw [n1, if_neg (by simp), if_pos h]
theorem expr_c3 (n1 : sees [isKey wFun] s.rest = false) (n2 : sees [isKey wLet, isKey wRec] s.rest = false) (h : sees [isKey wLet] s.rest = true) : exprB C E P s = formM C E P 7 rLet s := by unfold exprB; rw [n1, if_neg (by simp), n2, if_neg (by simp), if_pos h]
theorem expr_c4 (n1 : sees [isKey wFun] s.rest = false) (n2 : sees [isKey wLet, isKey wRec] s.rest = false) (n3 : sees [isKey wLet] s.rest = false) (h : sees [isKey wIf] s.rest = true) : exprB C E P s = formM C E P 9 rIf s := by unfold exprB; rw [n1, if_neg (by simp), n2, if_neg (by simp), n3, if_neg (by simp), if_pos h]
theorem expr_c5 (n1 : sees [isKey wFun] s.rest = false) (n2 : sees [isKey wLet, isKey wRec] s.rest = false) (n3 : sees [isKey wLet] s.rest = false) (n4 : sees [isKey wIf] s.rest = false) (h : sees [isKey wRaise] s.rest = true) : exprB C E P s = formM C E P 11 rRaise s := by unfold exprB; rw [n1, if_neg (by simp), n2, if_neg (by simp), n3, if_neg (by simp), n4, if_neg (by simp), if_pos h]
theorem expr_c6 (n1 : sees [isKey wFun] s.rest = false) (n2 : sees [isKey wLet, isKey wRec] s.rest = false) (n3 : sees [isKey wLet] s.rest = false) (n4 : sees [isKey wIf] s.rest = false) (n5 : sees [isKey wRaise] s.rest = false) (h : sees [isKey wTry] s.rest = true) : exprB C E P s = formM C E P 12 rTry s := by unfold exprB; rw [n1, if_neg (by simp), n2, if_neg (by simp), n3, if_neg (by simp), n4, if_neg (by simp), n5, if_neg (by simp), if_pos h]
theorem expr_c7 (n1 : sees [isKey wFun] s.rest = false) (n2 : sees [isKey wLet, isKey wRec] s.rest = false) (n3 : sees [isKey wLet] s.rest = false) (n4 : sees [isKey wIf] s.rest = false) (n5 : sees [isKey wRaise] s.rest = false) (n6 : sees [isKey wTry] s.rest = false) : exprB C E P s = rowM C E P s := by unfold exprB; rw [n1, if_neg (by simp), n2, if_neg (by simp), n3, if_neg (by simp), n4, if_neg (by simp), n5, if_neg (by simp), n6, if_neg (by simp)]
end
set_option maxHeartbeats 8000000 in
theorem expr1_any {C : Cfg} {p xb : Nat} {dp : Int} {E P : Par} (V : Env C p dp E P) (hrow : ROK C p dp (rowM C E P)) (s : St) (w0 : World) (h : PS C p dp s w0) (hx : BoxP p xb w0) :
    Calls Tryz.prog 34 #[.pointer (some ⟨xb, 0, none⟩)] w0 (NP C p dp (exprB C E P s) w0) := by
  have P0 := Lib.hid h
  have B0 := Lib.hid (Bar.refl p w0)
  have X0 := Lib.hid hx
  have x0 := hx.2
  have HV := Lib.hid V
  have HRW := Lib.hid (hrow s)
  clear h V hrow hx
  obtain ⟨R, hR⟩ : ∃ R, R = exprB C E P s := ⟨_, rfl⟩
  rw [← hR]
  have HR := Lib.hid hR
  clear hR
  go_enter Tryz.func34, Tryz.ntmps34
  go_upto_region 1 with fail
  go_cut [2] from 2 to 6 (fun s2 wx => s2 = .bool (sees [isKey wFun] s.rest) ∧ PS C p dp s wx ∧ Below w0.heap.size w0 wx)
  case first =>
    go_region_with (first
      | (go_at_call 36; refine (key_any p ⟨#[102, 117, 110]⟩ _ (by exact P0.out.lt)).mono ?_; (rintro e wa ⟨va, rfl, hT, hb⟩; obtain ⟨ga, capa, rfl⟩ := hT.form; have TA : Hid (IsTest p wa (.func (.func ga) #[] capa) (isKey wFun)) := Lib.hid hT; have BA : Hid (Below w0.heap.size w0 wa) := Lib.hid (by first | exact hb | exact (Below.refl _ _).drew.trans hb); have xa := (BA.out.cell (p := ⟨xb, 0, none⟩) (World.block_lt_of_cell? _ _ x0)).trans x0; have xc := fun o => (World.cell?_alloc_old wa o ⟨xb, 0, none⟩ (Nat.ne_of_lt (World.block_lt_of_cell? _ _ xa))).trans xa; clear hT hb))
      | (go_at_call 35; refine (sees1_any (P0.out.below BA.out) TA.out).mono ?_; (rintro e wb ⟨rfl, hb⟩; have BB : Hid (Below w0.heap.size w0 wb) := Lib.hid (BA.out.trans (hb.mono BA.out.size)); clear hb)))
    all_goals
      go_wp2_with fail
      go_meet
      case rel => exact ⟨rfl, P0.out.below BB.out, BB.out⟩
  case rest =>
    obtain ⟨rfl, hP, hb⟩ := hcut
    obtain ⟨w1, hw⟩ : ∃ w1 : World, w1 = wc := ⟨_, rfl⟩
    subst hw
    have P1 := Lib.hid hP
    have B1 := Lib.hid (B0.out.step hb)
    have x1 := (hb.cell (p := ⟨xb, 0, none⟩) (World.block_lt_of_cell? _ _ x0)).trans x0
    clear hP hb
    cases hv : sees [isKey wFun] s.rest with
    | true =>
      have RM := Lib.hid (HR.out.trans (expr_c1  hv))
      have K := Lib.hid (form_any HV.out 5 _ rFun rule_fun s w1 P1.out)
      clear hv
      go_wp2_with fail
      refine K.out.mono ?_
      rintro e w9 ⟨v, rfl, hv, hfr, hP, hB⟩
      have A1 := Lib.hid hv
      have A2 := Lib.hid hfr
      have A3 := Lib.hid hP
      have A4 := Lib.hid hB
      clear hv hfr hP hB
      go_wp2_with fail
      go_ret
      rw [RM.out]
      exact ⟨_, rfl, A1.out, A2.out.mono B1.out.size, A3.out, B1.out.trans A4.out⟩
    | false =>
      have N1 := Lib.hid hv
      clear hv
      go_upto_region 3 with fail
      go_cut [9] from 9 to 14 (fun s2 wx => s2 = .bool (sees [isKey wLet, isKey wRec] s.rest) ∧ PS C p dp s wx ∧ Below w1.heap.size w1 wx)
      case first =>
        go_region_with (first
          | (go_at_call 36; (with_reducible refine Calls.mono (key_any p ⟨#[108, 101, 116]⟩ _ ?_) ?_); (first | exact P1.out.lt | exact Nat.lt_of_lt_of_le P1.out.lt Br.out.size); (rintro e wl ⟨vl, rfl, hT, hb⟩; obtain ⟨gl, capl, rfl⟩ := hT.form; have Tl : Hid (IsTest p wl (.func (.func gl) #[] capl) (isKey wLet)) := Lib.hid hT; have Cl := Lib.hid hb; have Bl : Hid (Below w1.heap.size w1 wl) := Lib.hid (by first | exact hb | exact (Below.refl _ _).drew.trans hb | exact Br.out.trans (hb.mono Br.out.size)); have xl := (Bl.out.cell (p := ⟨xb, 0, none⟩) (World.block_lt_of_cell? _ _ x1)).trans x1; have xcl := fun o => (World.cell?_alloc_old wl o ⟨xb, 0, none⟩ (Nat.ne_of_lt (World.block_lt_of_cell? _ _ xl))).trans xl; clear hT hb))
          | (go_at_call 36; (with_reducible refine Calls.mono (key_any p ⟨#[114, 101, 99]⟩ _ ?_) ?_); (first | exact P1.out.lt | exact Nat.lt_of_lt_of_le P1.out.lt Bl.out.size); (rintro e wr ⟨vr, rfl, hT, hb⟩; obtain ⟨gr, capr, rfl⟩ := hT.form; have Tr : Hid (IsTest p wr (.func (.func gr) #[] capr) (isKey wRec)) := Lib.hid hT; have Cr := Lib.hid hb; have Br : Hid (Below w1.heap.size w1 wr) := Lib.hid (by first | exact hb | exact (Below.refl _ _).drew.trans hb | exact Bl.out.trans (hb.mono Bl.out.size)); have xr := (Br.out.cell (p := ⟨xb, 0, none⟩) (World.block_lt_of_cell? _ _ x1)).trans x1; have xcr := fun o => (World.cell?_alloc_old wr o ⟨xb, 0, none⟩ (Nat.ne_of_lt (World.block_lt_of_cell? _ _ xr))).trans xr; clear hT hb))
          | (go_at_call 35; refine (sees2_any (f := isKey wLet) (f2 := isKey wRec) (C := C) (dp := dp) (s := s) (by first | exact P1.out.below Br.out | exact P1.out.below Bl.out) (by first | exact Tl.out | exact Tl.out.below Cr.out) (by first | exact Tr.out | exact Tr.out.below Cl.out)).mono ?_; (rintro e wb ⟨rfl, hb⟩; have BB : Hid (Below w1.heap.size w1 wb) := Lib.hid (by first | exact Br.out.trans (hb.mono Br.out.size) | exact Bl.out.trans (hb.mono Bl.out.size)); clear hb)))
        all_goals
          go_wp2_with fail
          go_meet
          case rel => exact ⟨rfl, P1.out.below BB.out, BB.out⟩
      case rest =>
        obtain ⟨rfl, hP, hb⟩ := hcut
        obtain ⟨w2, hw⟩ : ∃ w2 : World, w2 = wc := ⟨_, rfl⟩
        subst hw
        have P2 := Lib.hid hP
        have B2 := Lib.hid (B1.out.step hb)
        have x2 := (hb.cell (p := ⟨xb, 0, none⟩) (World.block_lt_of_cell? _ _ x1)).trans x1
        clear hP hb
        cases hv : sees [isKey wLet, isKey wRec] s.rest with
        | true =>
          have RM := Lib.hid (HR.out.trans (expr_c2 N1.out hv))
          have K := Lib.hid (form_any HV.out 8 _ rRec rule_rec s w2 P2.out)
          clear hv
          go_wp2_with fail
          refine K.out.mono ?_
          rintro e w9 ⟨v, rfl, hv, hfr, hP, hB⟩
          have A1 := Lib.hid hv
          have A2 := Lib.hid hfr
          have A3 := Lib.hid hP
          have A4 := Lib.hid hB
          clear hv hfr hP hB
          go_wp2_with fail
          go_ret
          rw [RM.out]
          exact ⟨_, rfl, A1.out, A2.out.mono B2.out.size, A3.out, B2.out.trans A4.out⟩
        | false =>
          have N2 := Lib.hid hv
          clear hv
          go_upto_region 5 with fail
          go_cut [17] from 17 to 21 (fun s2 wx => s2 = .bool (sees [isKey wLet] s.rest) ∧ PS C p dp s wx ∧ Below w2.heap.size w2 wx)
          case first =>
            go_region_with (first
              | (go_at_call 36; refine (key_any p ⟨#[108, 101, 116]⟩ _ (by exact P2.out.lt)).mono ?_; (rintro e wa ⟨va, rfl, hT, hb⟩; obtain ⟨ga, capa, rfl⟩ := hT.form; have TA : Hid (IsTest p wa (.func (.func ga) #[] capa) (isKey wLet)) := Lib.hid hT; have BA : Hid (Below w2.heap.size w2 wa) := Lib.hid (by first | exact hb | exact (Below.refl _ _).drew.trans hb); have xa := (BA.out.cell (p := ⟨xb, 0, none⟩) (World.block_lt_of_cell? _ _ x2)).trans x2; have xc := fun o => (World.cell?_alloc_old wa o ⟨xb, 0, none⟩ (Nat.ne_of_lt (World.block_lt_of_cell? _ _ xa))).trans xa; clear hT hb))
              | (go_at_call 35; refine (sees1_any (P2.out.below BA.out) TA.out).mono ?_; (rintro e wb ⟨rfl, hb⟩; have BB : Hid (Below w2.heap.size w2 wb) := Lib.hid (BA.out.trans (hb.mono BA.out.size)); clear hb)))
            all_goals
              go_wp2_with fail
              go_meet
              case rel => exact ⟨rfl, P2.out.below BB.out, BB.out⟩
          case rest =>
            obtain ⟨rfl, hP, hb⟩ := hcut
            obtain ⟨w3, hw⟩ : ∃ w3 : World, w3 = wc := ⟨_, rfl⟩
            subst hw
            have P3 := Lib.hid hP
            have B3 := Lib.hid (B2.out.step hb)
            have x3 := (hb.cell (p := ⟨xb, 0, none⟩) (World.block_lt_of_cell? _ _ x2)).trans x2
            clear hP hb
            cases hv : sees [isKey wLet] s.rest with
            | true =>
              have RM := Lib.hid (HR.out.trans (expr_c3 N1.out N2.out hv))
              have K := Lib.hid (form_any HV.out 7 _ rLet rule_let s w3 P3.out)
              clear hv
              go_wp2_with fail
              refine K.out.mono ?_
              rintro e w9 ⟨v, rfl, hv, hfr, hP, hB⟩
              have A1 := Lib.hid hv
              have A2 := Lib.hid hfr
              have A3 := Lib.hid hP
              have A4 := Lib.hid hB
              clear hv hfr hP hB
              go_wp2_with fail
              go_ret
              rw [RM.out]
              exact ⟨_, rfl, A1.out, A2.out.mono B3.out.size, A3.out, B3.out.trans A4.out⟩
            | false =>
              have N3 := Lib.hid hv
              clear hv
              go_upto_region 7 with fail
              go_cut [24] from 24 to 28 (fun s2 wx => s2 = .bool (sees [isKey wIf] s.rest) ∧ PS C p dp s wx ∧ Below w3.heap.size w3 wx)
              case first =>
                go_region_with (first
                  | (go_at_call 36; refine (key_any p ⟨#[105, 102]⟩ _ (by exact P3.out.lt)).mono ?_; (rintro e wa ⟨va, rfl, hT, hb⟩; obtain ⟨ga, capa, rfl⟩ := hT.form; have TA : Hid (IsTest p wa (.func (.func ga) #[] capa) (isKey wIf)) := Lib.hid hT; have BA : Hid (Below w3.heap.size w3 wa) := Lib.hid (by first | exact hb | exact (Below.refl _ _).drew.trans hb); have xa := (BA.out.cell (p := ⟨xb, 0, none⟩) (World.block_lt_of_cell? _ _ x3)).trans x3; have xc := fun o => (World.cell?_alloc_old wa o ⟨xb, 0, none⟩ (Nat.ne_of_lt (World.block_lt_of_cell? _ _ xa))).trans xa; clear hT hb))
                  | (go_at_call 35; refine (sees1_any (P3.out.below BA.out) TA.out).mono ?_; (rintro e wb ⟨rfl, hb⟩; have BB : Hid (Below w3.heap.size w3 wb) := Lib.hid (BA.out.trans (hb.mono BA.out.size)); clear hb)))
                all_goals
                  go_wp2_with fail
                  go_meet
                  case rel => exact ⟨rfl, P3.out.below BB.out, BB.out⟩
              case rest =>
                obtain ⟨rfl, hP, hb⟩ := hcut
                obtain ⟨w4, hw⟩ : ∃ w4 : World, w4 = wc := ⟨_, rfl⟩
                subst hw
                have P4 := Lib.hid hP
                have B4 := Lib.hid (B3.out.step hb)
                have x4 := (hb.cell (p := ⟨xb, 0, none⟩) (World.block_lt_of_cell? _ _ x3)).trans x3
                clear hP hb
                cases hv : sees [isKey wIf] s.rest with
                | true =>
                  have RM := Lib.hid (HR.out.trans (expr_c4 N1.out N2.out N3.out hv))
                  have K := Lib.hid (form_any HV.out 9 _ rIf rule_if s w4 P4.out)
                  clear hv
                  go_wp2_with fail
                  refine K.out.mono ?_
                  rintro e w9 ⟨v, rfl, hv, hfr, hP, hB⟩
                  have A1 := Lib.hid hv
                  have A2 := Lib.hid hfr
                  have A3 := Lib.hid hP
                  have A4 := Lib.hid hB
                  clear hv hfr hP hB
                  go_wp2_with fail
                  go_ret
                  rw [RM.out]
                  exact ⟨_, rfl, A1.out, A2.out.mono B4.out.size, A3.out, B4.out.trans A4.out⟩
                | false =>
                  have N4 := Lib.hid hv
                  clear hv
                  go_upto_region 9 with fail
                  go_cut [31] from 31 to 35 (fun s2 wx => s2 = .bool (sees [isKey wRaise] s.rest) ∧ PS C p dp s wx ∧ Below w4.heap.size w4 wx)
                  case first =>
                    go_region_with (first
                      | (go_at_call 36; refine (key_any p ⟨#[114, 97, 105, 115, 101]⟩ _ (by exact P4.out.lt)).mono ?_; (rintro e wa ⟨va, rfl, hT, hb⟩; obtain ⟨ga, capa, rfl⟩ := hT.form; have TA : Hid (IsTest p wa (.func (.func ga) #[] capa) (isKey wRaise)) := Lib.hid hT; have BA : Hid (Below w4.heap.size w4 wa) := Lib.hid (by first | exact hb | exact (Below.refl _ _).drew.trans hb); have xa := (BA.out.cell (p := ⟨xb, 0, none⟩) (World.block_lt_of_cell? _ _ x4)).trans x4; have xc := fun o => (World.cell?_alloc_old wa o ⟨xb, 0, none⟩ (Nat.ne_of_lt (World.block_lt_of_cell? _ _ xa))).trans xa; clear hT hb))
                      | (go_at_call 35; refine (sees1_any (P4.out.below BA.out) TA.out).mono ?_; (rintro e wb ⟨rfl, hb⟩; have BB : Hid (Below w4.heap.size w4 wb) := Lib.hid (BA.out.trans (hb.mono BA.out.size)); clear hb)))
                    all_goals
                      go_wp2_with fail
                      go_meet
                      case rel => exact ⟨rfl, P4.out.below BB.out, BB.out⟩
                  case rest =>
                    obtain ⟨rfl, hP, hb⟩ := hcut
                    obtain ⟨w5, hw⟩ : ∃ w5 : World, w5 = wc := ⟨_, rfl⟩
                    subst hw
                    have P5 := Lib.hid hP
                    have B5 := Lib.hid (B4.out.step hb)
                    have x5 := (hb.cell (p := ⟨xb, 0, none⟩) (World.block_lt_of_cell? _ _ x4)).trans x4
                    clear hP hb
                    cases hv : sees [isKey wRaise] s.rest with
                    | true =>
                      have RM := Lib.hid (HR.out.trans (expr_c5 N1.out N2.out N3.out N4.out hv))
                      have K := Lib.hid (form_any HV.out 11 _ rRaise rule_raise s w5 P5.out)
                      clear hv
                      go_wp2_with fail
                      refine K.out.mono ?_
                      rintro e w9 ⟨v, rfl, hv, hfr, hP, hB⟩
                      have A1 := Lib.hid hv
                      have A2 := Lib.hid hfr
                      have A3 := Lib.hid hP
                      have A4 := Lib.hid hB
                      clear hv hfr hP hB
                      go_wp2_with fail
                      go_ret
                      rw [RM.out]
                      exact ⟨_, rfl, A1.out, A2.out.mono B5.out.size, A3.out, B5.out.trans A4.out⟩
                    | false =>
                      have N5 := Lib.hid hv
                      clear hv
                      go_upto_region 11 with fail
                      go_cut [38] from 38 to 42 (fun s2 wx => s2 = .bool (sees [isKey wTry] s.rest) ∧ PS C p dp s wx ∧ Below w5.heap.size w5 wx)
                      case first =>
                        go_region_with (first
                          | (go_at_call 36; refine (key_any p ⟨#[116, 114, 121]⟩ _ (by exact P5.out.lt)).mono ?_; (rintro e wa ⟨va, rfl, hT, hb⟩; obtain ⟨ga, capa, rfl⟩ := hT.form; have TA : Hid (IsTest p wa (.func (.func ga) #[] capa) (isKey wTry)) := Lib.hid hT; have BA : Hid (Below w5.heap.size w5 wa) := Lib.hid (by first | exact hb | exact (Below.refl _ _).drew.trans hb); have xa := (BA.out.cell (p := ⟨xb, 0, none⟩) (World.block_lt_of_cell? _ _ x5)).trans x5; have xc := fun o => (World.cell?_alloc_old wa o ⟨xb, 0, none⟩ (Nat.ne_of_lt (World.block_lt_of_cell? _ _ xa))).trans xa; clear hT hb))
                          | (go_at_call 35; refine (sees1_any (P5.out.below BA.out) TA.out).mono ?_; (rintro e wb ⟨rfl, hb⟩; have BB : Hid (Below w5.heap.size w5 wb) := Lib.hid (BA.out.trans (hb.mono BA.out.size)); clear hb)))
                        all_goals
                          go_wp2_with fail
                          go_meet
                          case rel => exact ⟨rfl, P5.out.below BB.out, BB.out⟩
                      case rest =>
                        obtain ⟨rfl, hP, hb⟩ := hcut
                        obtain ⟨w6, hw⟩ : ∃ w6 : World, w6 = wc := ⟨_, rfl⟩
                        subst hw
                        have P6 := Lib.hid hP
                        have B6 := Lib.hid (B5.out.step hb)
                        have x6 := (hb.cell (p := ⟨xb, 0, none⟩) (World.block_lt_of_cell? _ _ x5)).trans x5
                        clear hP hb
                        cases hv : sees [isKey wTry] s.rest with
                        | true =>
                          have RM := Lib.hid (HR.out.trans (expr_c6 N1.out N2.out N3.out N4.out N5.out hv))
                          have K := Lib.hid (form_any HV.out 12 _ rTry rule_try s w6 P6.out)
                          clear hv
                          go_wp2_with fail
                          refine K.out.mono ?_
                          rintro e w9 ⟨v, rfl, hv, hfr, hP, hB⟩
                          have A1 := Lib.hid hv
                          have A2 := Lib.hid hfr
                          have A3 := Lib.hid hP
                          have A4 := Lib.hid hB
                          clear hv hfr hP hB
                          go_wp2_with fail
                          go_ret
                          rw [RM.out]
                          exact ⟨_, rfl, A1.out, A2.out.mono B6.out.size, A3.out, B6.out.trans A4.out⟩
                        | false =>
                          have N6 := Lib.hid hv
                          clear hv
                          have RM := Lib.hid (HR.out.trans (expr_c7 N1.out N2.out N3.out N4.out N5.out N6.out))
                          have K := Lib.hid (HRW.out w6 P6.out)
                          go_wp2_with fail
                          refine K.out.mono ?_
                          rintro e w9 ⟨v, rfl, hv, hfr, hP, hB⟩
                          have A1 := Lib.hid hv
                          have A2 := Lib.hid hfr
                          have A3 := Lib.hid hP
                          have A4 := Lib.hid hB
                          clear hv hfr hP hB
                          go_wp2_with fail
                          go_ret
                          rw [RM.out]
                          exact ⟨_, rfl, A1.out, A2.out.mono B6.out.size, A3.out, B6.out.trans A4.out⟩
end Go.Proofs.YtggjckalmlploaaGreatDoor
/- Lists of nodes as forests: plain mathematics. -/
namespace Go.Proofs.YtggjckalmlploaaGreatDoor
open Go.Proofs.TreeMath

/-- A list of trees: the first one's node, its kids, and the others. -/
inductive F where
  | nil
  | cons (n : Nd) (k r : F)
namespace F
def flat : F → List Nd
  | nil => []
  | cons n k r => n :: (k.flat ++ r.flat)
def cnt : F → Nat
  | nil => 0
  | cons _ _ r => r.cnt + 1
def sz : F → Nat
  | nil => 0
  | cons _ k r => 1 + k.sz + r.sz
/-- Each node has as many kids as it says. -/
def ok : F → Prop
  | nil => True
  | cons n k r => n.kids = k.cnt ∧ k.ok ∧ r.ok
theorem flat_length (f : F) : f.flat.length = f.sz := by
  induction f with
  | nil => rfl
  | cons n k r hk hr => simp [flat, sz, hk, hr]; omega
end F
theorem kk_append (a b : List Nd) : kk (a ++ b) = kk a ++ kk b := by simp [kk]
theorem kk_cons (n : Nd) (l : List Nd) : kk (n :: l) = n.kids :: kk l := rfl
theorem scan_flat (f : F) : f.ok → ∀ R : List Int, scan (kk f.flat ++ R) f.cnt = some f.sz := by
  induction f with
  | nil => intro _ R; exact scan_zero _
  | cons n k r hk hr =>
    rintro ⟨h1, h2, h3⟩ R
    have a := hk h2 (kk r.flat ++ R)
    have b := hr h3 R
    simp only [F.flat, F.cnt, F.sz, kk_cons, kk_append, List.cons_append, List.append_assoc]
    rw [scan_cons, if_neg (by omega), h1, Int.toNat_natCast, Nat.add_comm r.cnt, scan_add, a]
    simp only [Option.bind_some]
    have hl : (kk k.flat).length = k.sz := by rw [length_kk, F.flat_length]
    rw [← hl, List.drop_left, b, hl]
    simp
    omega
theorem forest_of : ∀ (m : Nat) (ns : List Nd) (o t : Nat), ns.length ≤ m → scan (kk ns) o = some t → ∃ f : F, f.ok ∧ f.cnt = o ∧ f.flat = ns.take t := by
  intro m
  induction m with
  | zero =>
    intro ns o t hm h
    obtain rfl : ns = [] := List.length_eq_zero_iff.1 (by omega)
    cases o with
    | zero => exact ⟨.nil, trivial, rfl, by simp [F.flat]⟩
    | succ o => simp [kk, scan] at h
  | succ m ih =>
    intro ns o t hm h
    cases o with
    | zero =>
      rw [scan_zero] at h
      obtain rfl : 0 = t := Option.some.inj h
      exact ⟨.nil, trivial, rfl, by simp [F.flat]⟩
    | succ o =>
      cases ns with
      | nil => simp [kk, scan] at h
      | cons n ns =>
        rw [kk_cons, scan_cons] at h
        split at h
        · simp at h
        · rename_i hn
          rw [Nat.add_comm o, scan_add] at h
          cases ha : scan (kk ns) n.kids.toNat with
          | none => rw [ha] at h; simp at h
          | some a =>
            rw [ha] at h
            simp only [Option.bind_some] at h
            have e : (kk ns).drop a = kk (ns.drop a) := by simp [kk]
            rw [e] at h
            cases hb : scan (kk (ns.drop a)) o with
            | none => rw [hb] at h; simp at h
            | some b =>
              rw [hb] at h
              simp only [Option.map_some, Option.some.injEq] at h
              subst h
              obtain ⟨k, k1, k2, k3⟩ := ih ns _ _ (by simp at hm; omega) ha
              obtain ⟨r, r1, r2, r3⟩ := ih (ns.drop a) _ _ (by simp at hm ⊢; omega) hb
              refine ⟨.cons n k r, ⟨by omega, k1, r1⟩, by simp [F.cnt, r2], ?_⟩
              simp only [F.flat, k3, r3]
              rw [List.take_succ_cons, List.take_add]
theorem doc_of (ns : List Nd) (h : wholeB (kk ns) = true) : ∃ f : F, f.ok ∧ f.cnt = 1 ∧ f.flat = ns := by
  obtain ⟨f, h1, h2, h3⟩ := forest_of ns.length ns 1 _ (Nat.le_refl _) ((wholeB_iff _).1 h)
  exact ⟨f, h1, h2, by rw [h3, length_kk, List.take_length]⟩
theorem whole_flat (f : F) (h : f.ok) (hc : f.cnt = 1) : wholeB (kk f.flat) = true := by
  rw [wholeB_iff]
  have := scan_flat f h []
  rw [List.append_nil, hc] at this
  rw [this, length_kk, F.flat_length]
/-- A forest within a list. -/
theorem fin_flat (f : F) (h : f.ok) (pre post : List Nd) : fin (kk (pre ++ (f.flat ++ post))) pre.length f.cnt = ((pre.length + f.sz : Nat) : Int) := by
  have e : (kk (pre ++ (f.flat ++ post))).drop pre.length = kk f.flat ++ kk post := by
    rw [kk_append, kk_append, List.drop_append_of_le_length (by rw [length_kk]; omega), List.drop_eq_nil_of_le (by rw [length_kk]; omega), List.nil_append]
  unfold fin
  rw [e, scan_flat f h]
end Go.Proofs.YtggjckalmlploaaGreatDoor
