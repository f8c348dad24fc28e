/- Texts of this seat, one behind the other: ParS, ParU2. -/
import Derived.Test.YtggjckalmlploaaGreatDoorKn33
import Derived.Deep.CutBlock
/- The parser: atoms of patterns. -/
set_option maxRecDepth 100000
namespace Go.Proofs.YtggjckalmlploaaGreatDoor
open Go.Shelf Go.RowKit Go.Lib Go.Proofs.TreeMath Go.Proofs.LexMath Go.Proofs.FixMath Go.Proofs.ParMath
attribute [local go_sem] field_text field_num
section
variable {C : Cfg} {E P : Par} {s : St}
theorem patom_c1 (h : sees [isKey wAny] s.rest = true) : patomM C E P s = ([⟨21, ByteArray.empty, 0, 0⟩], (take C (isKey wAny) s).2) := by unfold patomM; rw [if_pos h]
theorem patom_c2 (n1 : sees [isKey wAny] s.rest = false) (h : sees [isKind [3]] s.rest = true) : patomM C E P s = ([⟨23, ByteArray.empty, (take C (isKind [3]) s).1.num, 0⟩], (take C (isKind [3]) s).2) := by unfold patomM; rw [n1, if_neg (by simp), if_pos h]
theorem patom_c3 (n1 : sees [isKey wAny] s.rest = false) (n2 : sees [isKind [3]] s.rest = false) (h : sees [isKind [2]] s.rest = true) : patomM C E P s = ([⟨24, (take C (isKind [2]) s).1.text, 0, 0⟩], (take C (isKind [2]) s).2) := by
  unfold patomM; rw [n1, if_neg (by simp), n2, if_neg (by simp), if_pos h]
theorem patom_c4 (n1 : sees [isKey wAny] s.rest = false) (n2 : sees [isKind [3]] s.rest = false) (n3 : sees [isKind [2]] s.rest = false) (h : sees [isKey wLp] s.rest = true) (h2 : sees [isKey wLp, isKind [5]] s.rest = false) : patomM C E P s = ((parts0 C E P rPPat s).1.2.headD [], (parts0 C E P rPPat s).2) := by
  unfold patomM; rw [n1, if_neg (by simp), n2, if_neg (by simp), n3, if_neg (by simp), if_pos ⟨h, by rw [h2]; simp⟩]
theorem patom_c5 (n1 : sees [isKey wAny] s.rest = false) (n2 : sees [isKind [3]] s.rest = false) (n3 : sees [isKind [2]] s.rest = false) (h : ¬ (sees [isKey wLp] s.rest = true ∧ ¬ sees [isKey wLp, isKind [5]] s.rest = true)) : patomM C E P s = ([⟨22, (bindM C s).1, 0, 0⟩], (bindM C s).2) := by
  unfold patomM; rw [n1, if_neg (by simp), n2, if_neg (by simp), n3, if_neg (by simp), if_neg h]
end
set_option maxHeartbeats 8000000 in
theorem patom_any {C : Cfg} {p : Nat} {dp : Int} {E P : Par} (V : Env C p dp E P) (s : St) (w0 : World) (h : PS C p dp s w0) :
    Calls Tryz.prog 120 #[.pointer (some ⟨p, 0, none⟩)] w0 (NP C p dp (patomM C E P s) w0) := by
  have P0 := Lib.hid h
  have B0 := Lib.hid (Bar.refl p w0)
  have HV := Lib.hid V
  clear h V
  obtain ⟨R, hR⟩ : ∃ R, R = patomM C E P s := ⟨_, rfl⟩
  rw [← hR]
  have HR := Lib.hid hR
  clear hR
  go_enter Tryz.func120, Tryz.ntmps120
  go_wp2_with fail
  refine (key_any p ⟨#[95]⟩ _ P0.out.lt).mono ?_
  rintro e w1 ⟨v1, rfl, hT, hb⟩
  obtain ⟨g1, cap1, rfl⟩ := hT.form
  have T1 : Hid (IsTest p w1 (.func (.func g1) #[] cap1) (isKey wAny)) := Lib.hid hT; have P1 := Lib.hid (P0.out.below hb); have B1 := Lib.hid (B0.out.step hb)
  clear hT hb
  go_wp2_with fail
  refine (sees1_any P1.out T1.out).mono ?_
  rintro e w2 ⟨rfl, hb⟩
  have P2 := Lib.hid (P1.out.below hb); have B2 := Lib.hid (B1.out.step hb)
  have T1 := Lib.hid (T1.out.below hb)
  clear hb
  cases hv1 : sees [isKey wAny] s.rest with
  | true =>
    have RM := HR.out.trans (patom_c1 hv1)
    clear hv1
    go_wp2_with fail
    refine (key_any p ⟨#[95]⟩ _ P2.out.lt).mono ?_
    rintro e w3 ⟨v3, rfl, hT, hb⟩
    obtain ⟨g3, cap3, rfl⟩ := hT.form
    have T8 : Hid (IsTest p w3 (.func (.func g3) #[] cap3) (isKey wAny)) := Lib.hid hT; have P3 := Lib.hid (P2.out.below hb); have B3 := Lib.hid (B2.out.step hb)
    clear hT hb
    go_wp2_with fail
    have K := takes_any C p dp s _ (isKey wAny) w3 P3.out T8.out
    generalize take C (isKey wAny) s = X at K RM
    obtain ⟨⟨tk, tx, tn, ta⟩, s1⟩ := X
    simp only at K RM
    have K := Lib.hid K
    have RM := Lib.hid RM
    refine K.out.mono ?_
    rintro e w9 ⟨t, rfl, rfl, hP, hB⟩
    have A3 := Lib.hid hP
    have A4 := Lib.hid hB
    clear hP hB
    have MK := Lib.hid (leafN_any ⟨21, ⟨#[]⟩, 0, 0⟩ w9)
    unfold Nd.val at MK
    go_wp2_with fail
    refine MK.out.mono ?_
    rintro e w10 ⟨v, rfl, hv, hfr, hb⟩
    have M1 := Lib.hid hv
    have M2 := Lib.hid hfr
    have M3 := Lib.hid hb
    clear hv hfr hb
    go_wp2_with fail
    go_ret
    rw [RM.out]
    exact ⟨_, rfl, M1.out, M2.out.mono (B3.out.trans A4.out).size, A3.out.below M3.out, (B3.out.trans A4.out).step M3.out⟩
  | false =>
    have N1 := Lib.hid hv1
    clear hv1
    go_wp2_with fail
    refine (kindL p [3] _ _ _ P2.out.lt rfl rfl (by decide)).mono ?_
    rintro e w3 ⟨v3, rfl, hT, hb⟩
    obtain ⟨g3, cap3, rfl⟩ := hT.form
    have T2 := Lib.hid hT; have P3 := Lib.hid (P2.out.below hb); have B3 := Lib.hid (B2.out.step hb)
    clear hT hb
    go_wp2_with fail
    refine (sees1_any P3.out T2.out).mono ?_
    rintro e w4 ⟨rfl, hb⟩
    have P4 := Lib.hid (P3.out.below hb); have B4 := Lib.hid (B3.out.step hb)
    have T2 := Lib.hid (T2.out.below hb)
    clear hb
    cases hv2 : sees [isKind [3]] s.rest with
    | true =>
      have RM := HR.out.trans (patom_c2 N1.out hv2)
      clear hv2
      go_wp2_with fail
      refine (kindL p [3] _ _ _ P4.out.lt rfl rfl (by decide)).mono ?_
      rintro e w5 ⟨v5, rfl, hT, hb⟩
      obtain ⟨g5, cap5, rfl⟩ := hT.form
      have T8 := Lib.hid hT; have P5 := Lib.hid (P4.out.below hb); have B5 := Lib.hid (B4.out.step hb)
      clear hT hb
      go_wp2_with fail
      have K := takes_any C p dp s _ (isKind [3]) w5 P5.out T8.out
      generalize take C (isKind [3]) s = X at K RM
      obtain ⟨⟨tk, tx, tn, ta⟩, s1⟩ := X
      simp only at K RM
      have K := Lib.hid K
      have RM := Lib.hid RM
      refine K.out.mono ?_
      rintro e w9 ⟨t, rfl, rfl, hP, hB⟩
      have A3 := Lib.hid hP
      have A4 := Lib.hid hB
      clear hP hB
      have MK := Lib.hid (leafN_any ⟨23, ⟨#[]⟩, tn, 0⟩ w9)
      unfold Nd.val at MK
      go_wp2_with fail
      refine MK.out.mono ?_
      rintro e w10 ⟨v, rfl, hv, hfr, hb⟩
      have M1 := Lib.hid hv
      have M2 := Lib.hid hfr
      have M3 := Lib.hid hb
      clear hv hfr hb
      go_wp2_with fail
      go_ret
      rw [RM.out]
      exact ⟨_, rfl, M1.out, M2.out.mono (B5.out.trans A4.out).size, A3.out.below M3.out, (B5.out.trans A4.out).step M3.out⟩
    | false =>
      have N2 := Lib.hid hv2
      clear hv2
      go_wp2_with fail
      refine (kindL p [2] _ _ _ P4.out.lt rfl rfl (by decide)).mono ?_
      rintro e w5 ⟨v5, rfl, hT, hb⟩
      obtain ⟨g5, cap5, rfl⟩ := hT.form
      have T3 := Lib.hid hT; have P5 := Lib.hid (P4.out.below hb); have B5 := Lib.hid (B4.out.step hb)
      clear hT hb
      go_wp2_with fail
      refine (sees1_any P5.out T3.out).mono ?_
      rintro e w6 ⟨rfl, hb⟩
      have P6 := Lib.hid (P5.out.below hb); have B6 := Lib.hid (B5.out.step hb)
      have T3 := Lib.hid (T3.out.below hb)
      clear hb
      cases hv3 : sees [isKind [2]] s.rest with
      | true =>
        have RM := HR.out.trans (patom_c3 N1.out N2.out hv3)
        clear hv3
        go_wp2_with fail
        refine (kindL p [2] _ _ _ P6.out.lt rfl rfl (by decide)).mono ?_
        rintro e w7 ⟨v7, rfl, hT, hb⟩
        obtain ⟨g7, cap7, rfl⟩ := hT.form
        have T8 := Lib.hid hT; have P7 := Lib.hid (P6.out.below hb); have B7 := Lib.hid (B6.out.step hb)
        clear hT hb
        go_wp2_with fail
        have K := takes_any C p dp s _ (isKind [2]) w7 P7.out T8.out
        generalize take C (isKind [2]) s = X at K RM
        obtain ⟨⟨tk, tx, tn, ta⟩, s1⟩ := X
        simp only at K RM
        have K := Lib.hid K
        have RM := Lib.hid RM
        refine K.out.mono ?_
        rintro e w9 ⟨t, rfl, rfl, hP, hB⟩
        have A3 := Lib.hid hP
        have A4 := Lib.hid hB
        clear hP hB
        have MK := Lib.hid (leafN_any ⟨24, tx, 0, 0⟩ w9)
        unfold Nd.val at MK
        go_wp2_with fail
        refine MK.out.mono ?_
        rintro e w10 ⟨v, rfl, hv, hfr, hb⟩
        have M1 := Lib.hid hv
        have M2 := Lib.hid hfr
        have M3 := Lib.hid hb
        clear hv hfr hb
        go_wp2_with fail
        go_ret
        rw [RM.out]
        exact ⟨_, rfl, M1.out, M2.out.mono (B7.out.trans A4.out).size, A3.out.below M3.out, (B7.out.trans A4.out).step M3.out⟩
      | false =>
        have N3 := Lib.hid hv3
        clear hv3
        go_wp2_with fail
        refine (key_any p ⟨#[40]⟩ _ P6.out.lt).mono ?_
        rintro e w7 ⟨v7, rfl, hT, hb⟩
        obtain ⟨g7, cap7, rfl⟩ := hT.form
        have T4 : Hid (IsTest p w7 (.func (.func g7) #[] cap7) (isKey wLp)) := Lib.hid hT; have P7 := Lib.hid (P6.out.below hb); have B7 := Lib.hid (B6.out.step hb)
        clear hT hb
        go_wp2_with fail
        refine (sees1_any P7.out T4.out).mono ?_
        rintro e w8 ⟨rfl, hb⟩
        have P8 := Lib.hid (P7.out.below hb); have B8 := Lib.hid (B7.out.step hb)
        have T4 := Lib.hid (T4.out.below hb)
        clear hb
        cases hv4 : sees [isKey wLp] s.rest with
        | false =>
          have N4 := Lib.hid hv4
          clear hv4
          have RM := HR.out.trans (patom_c5 N1.out N2.out N3.out (by rw [N4.out]; simp))
          have K := bind_any C p dp s w8 P8.out
          generalize bindM C s = X at K RM
          have K := Lib.hid K
          have RM := Lib.hid RM
          go_wp2_with fail
          refine K.out.mono ?_
          rintro e w9 ⟨x, rfl, rfl, hP, hB⟩
          have A3 := Lib.hid hP
          have A4 := Lib.hid hB
          clear hP hB
          have MK := Lib.hid (leafN_any ⟨22, X.1, 0, 0⟩ w9)
          unfold Nd.val at MK
          go_wp2_with fail
          refine MK.out.mono ?_
          rintro e w10 ⟨v, rfl, hv, hfr, hb⟩
          have M1 := Lib.hid hv
          have M2 := Lib.hid hfr
          have M3 := Lib.hid hb
          clear hv hfr hb
          go_wp2_with fail
          go_ret
          rw [RM.out]
          exact ⟨_, rfl, M1.out, M2.out.mono (B8.out.trans A4.out).size, A3.out.below M3.out, (B8.out.trans A4.out).step M3.out⟩
        | true =>
          have N4 := Lib.hid hv4
          clear hv4
          go_wp2_with fail
          refine (key_any p ⟨#[40]⟩ _ P8.out.lt).mono ?_
          rintro e w9 ⟨v9, rfl, hT, hb⟩
          obtain ⟨g9, cap9, rfl⟩ := hT.form
          have T5 : Hid (IsTest p w9 (.func (.func g9) #[] cap9) (isKey wLp)) := Lib.hid hT; have P9 := Lib.hid (P8.out.below hb); have B9 := Lib.hid (B8.out.step hb)
          clear hT hb
          go_wp2_with fail
          refine (kindL p [5] _ _ _ P9.out.lt rfl rfl (by decide)).mono ?_
          rintro e w10 ⟨v10, rfl, hT, hb⟩
          obtain ⟨g10, cap10, rfl⟩ := hT.form
          have T6 := Lib.hid hT; have P10 := Lib.hid (P9.out.below hb); have B10 := Lib.hid (B9.out.step hb)
          have T5 := Lib.hid (T5.out.below hb)
          clear hT hb
          go_wp2_with fail
          refine (sees2_any P10.out T5.out T6.out).mono ?_
          rintro e w11 ⟨rfl, hb⟩
          have P11 := Lib.hid (P10.out.below hb); have B11 := Lib.hid (B10.out.step hb)
          have T5 := Lib.hid (T5.out.below hb)
          have T6 := Lib.hid (T6.out.below hb)
          clear hb
          cases hv5 : sees [isKey wLp, isKind [5]] s.rest with
          | true =>
            have N5 := Lib.hid hv5
            clear hv5
            have RM := HR.out.trans (patom_c5 N1.out N2.out N3.out (by rw [N5.out]; simp))
            have K := bind_any C p dp s w11 P11.out
            generalize bindM C s = X at K RM
            have K := Lib.hid K
            have RM := Lib.hid RM
            go_wp2_with fail
            refine K.out.mono ?_
            rintro e w9 ⟨x, rfl, rfl, hP, hB⟩
            have A3 := Lib.hid hP
            have A4 := Lib.hid hB
            clear hP hB
            have MK := Lib.hid (leafN_any ⟨22, X.1, 0, 0⟩ w9)
            unfold Nd.val at MK
            go_wp2_with fail
            refine MK.out.mono ?_
            rintro e w10 ⟨v, rfl, hv, hfr, hb⟩
            have M1 := Lib.hid hv
            have M2 := Lib.hid hfr
            have M3 := Lib.hid hb
            clear hv hfr hb
            go_wp2_with fail
            go_ret
            rw [RM.out]
            exact ⟨_, rfl, M1.out, M2.out.mono (B11.out.trans A4.out).size, A3.out.below M3.out, (B11.out.trans A4.out).step M3.out⟩
          | false =>
            have RM := HR.out.trans (patom_c4 N1.out N2.out N3.out N4.out hv5)
            have K := parts_any C p dp E P HV.out.e HV.out.q _ rPPat rule_ppat s w11 P11.out
            have hlen := (parts0_sz HV.out.zE HV.out.zP (C := C) wLp [wPat, wRp] (by decide) s P0.out.lim.2).2.1
            rw [show cw [wPat, wRp] = 1 by decide, show wLp :: [wPat, wRp] = rPPat from rfl] at hlen
            generalize parts0 C E P rPPat s = X at K hlen RM
            obtain ⟨⟨nm, kids⟩, s1⟩ := X
            simp only at K hlen RM
            have K := Lib.hid K
            have RM := Lib.hid RM
            clear hv5
            go_wp2_with fail
            refine K.out.mono ?_
            rintro e w9 ⟨kv, rfl, hrow, hP, hB⟩
            obtain ⟨q, c, rfl⟩ := hrow.form
            obtain ⟨b, u, rfl, hu, hn, hfr⟩ := hrow.get 0 (by omega)
            have hh : kids.headD [] = kids.getD 0 [] := by cases kids <;> rfl
            rw [← hh] at hn
            have A1 := Lib.hid hn
            have A2 := Lib.hid hfr
            have A3 := Lib.hid hP
            have A4 := Lib.hid hB
            obtain ⟨q2, n2, c2, rfl⟩ : ∃ q n c, u = .slice q n c := by obtain ⟨_, q, c, e, _⟩ := hn; exact ⟨q, _, c, e⟩
            have hl0 : (0 : Int) < (kids.length : Int) := by omega
            clear hrow hn hfr hP hB hh hlen
            go_wp2_with fail
            go_ret
            rw [RM.out]
            exact ⟨_, rfl, A1.out, A2.out.mono B11.out.size, A3.out, B11.out.trans A4.out⟩
end Go.Proofs.YtggjckalmlploaaGreatDoor
/- The parser: what a pat's closure needs. -/
set_option maxRecDepth 100000
namespace Go.Proofs.YtggjckalmlploaaGreatDoor
open Go.Shelf Go.RowKit Go.Lib Go.Proofs.TreeMath Go.Proofs.LexMath Go.Proofs.FixMath Go.Proofs.ParMath
attribute [local go_sem] field_text field_num
/-- A box that holds the parser. -/
def BoxQ (p xb : Nat) (w : World) : Prop := xb ≠ p ∧ w.cell? ⟨xb, 0, none⟩ = some (.pointer (some ⟨p, 0, none⟩))
theorem BoxQ.bar {p xb : Nat} {w w' : World} (h : BoxQ p xb w) (b : Bar p w w') : BoxQ p xb w' := ⟨h.1, by rw [b.cell (a := ⟨xb, 0, none⟩) (World.block_lt_of_cell? _ _ h.2) h.1]; exact h.2⟩
theorem BoxQ.lt {p xb : Nat} {w : World} (h : BoxQ p xb w) : xb < w.heap.size := World.block_lt_of_cell? _ _ h.2
theorem BoxQ.new {p xb : Nat} {w : World} (h : BoxQ p xb w) (o : Obj) : (w.alloc o).cell? ⟨xb, 0, none⟩ = some (.pointer (some ⟨p, 0, none⟩)) := (World.cell?_alloc_old w o ⟨xb, 0, none⟩ (Nat.ne_of_lt h.lt)).trans h.2
theorem BoxQ.newd {p xb : Nat} {w : World} (h : BoxQ p xb w) (o : Obj) : (w.drew.alloc o).cell? ⟨xb, 0, none⟩ = some (.pointer (some ⟨p, 0, none⟩)) := (World.cell?_alloc_old w.drew o ⟨xb, 0, none⟩ (Nat.ne_of_lt h.lt)).trans h.2
theorem kindD (p : Nat) (ks : List Int) (n : Nat) (cs : Array Value) (w : World) (hp : p < w.heap.size) (hn : ks.length = n) (hc : cs.toList = intCells ks) (hb : ks.length ≤ 1000) :
    Calls Tryz.prog 68 #[.slice (some ⟨w.heap.size, 0, none⟩) n n] (w.alloc (.cells cs 43)).drew fun e w' => ∃ v, e = .returned v ∧ IsTest p w' v (isKind ks) ∧ Below w.heap.size w w' := by
  have hl := lit_cells w cs 43
  rw [hc] at hl
  refine (kind_any p ks w.heap.size 0 n n (w.alloc (.cells cs 43)).drew (by simp; omega) hn (by omega) (by simp) (by omega) hl).mono ?_
  rintro e w' ⟨v, rfl, h1, h2⟩
  exact ⟨v, rfl, h1, (lit_below w _).drew.trans (h2.mono (by simp))⟩
theorem pat_c1 {C : Cfg} {E P : Par} {s : St} (h : sees [isKind [2]] s.rest = false) : patB C E P s = patomM C E P s := by unfold patB; rw [h, if_neg (by simp)]
theorem pat_c2 {C : Cfg} {E P : Par} {s : St} (h : sees [isKind [2]] s.rest = true) : patB C E P s = (makeN ⟨24, (take C (isKind [2]) s).1.text, 0, 0⟩ (patL C E P 1000 (take C (isKind [2]) s).2).1, (patL C E P 1000 (take C (isKind [2]) s).2).2) := by unfold patB; rw [if_pos h]
def zn : Array Value := #[.int .i64 0, .string ⟨#[]⟩, .int .i64 0, .int .i64 0]
theorem zn_cells {w : World} {X : Nat} {a b c d : Value} {T : TypeId} (h : w.heap[X]? = some (.cells #[a, b, c, d] T (0, 0))) : w.cell? ⟨X, 0, none⟩ = some a ∧ w.cell? ⟨X, 1, none⟩ = some b ∧ w.cell? ⟨X, 2, none⟩ = some c ∧ w.cell? ⟨X, 3, none⟩ = some d ∧ w.frozen? ⟨X, 0, none⟩ = false ∧ w.frozen? ⟨X, 1, none⟩ = false ∧ w.frozen? ⟨X, 2, none⟩ = false ∧ w.frozen? ⟨X, 3, none⟩ = false :=
  ⟨cell_of_heap h 0, cell_of_heap h 1, cell_of_heap h 2, cell_of_heap h 3, frozen_of_heap h 0, frozen_of_heap h 1, frozen_of_heap h 2, frozen_of_heap h 3⟩
theorem zn_set {w : World} {X : Nat} {T : TypeId} {x0 x1 x2 x3 : Value} (h : w.heap[X]? = some (.cells #[x0, x1, x2, x3] T (0, 0))) (a b c d : Value) : ((((w.setCell ⟨X, 0, none⟩ a).setCell ⟨X, 1, none⟩ b).setCell ⟨X, 2, none⟩ c).setCell ⟨X, 3, none⟩ d).heap[X]? = some (.cells #[a, b, c, d] T (0, 0)) := by
  exact set_blk (set_blk (set_blk (set_blk h 0 a) 1 b) 2 c) 3 d
theorem new_blk (w : World) (o : Obj) : (w.alloc o).heap[w.heap.size]? = some o := by
  show (w.heap.push o)[w.heap.size]? = _
  simp
theorem zn_all {w : World} {X : Nat} (h : w.heap[X]? = some (.cells zn 37 (0, 0))) : w.cell? ⟨X, 0, none⟩ = some (.int .i64 0) ∧ w.cell? ⟨X, 1, none⟩ = some (.string ⟨#[]⟩) ∧ w.cell? ⟨X, 2, none⟩ = some (.int .i64 0) ∧ w.cell? ⟨X, 3, none⟩ = some (.int .i64 0) ∧ w.frozen? ⟨X, 0, none⟩ = false ∧ w.frozen? ⟨X, 1, none⟩ = false ∧ w.frozen? ⟨X, 2, none⟩ = false ∧ w.frozen? ⟨X, 3, none⟩ = false := zn_cells h
/-- The literal's kinds, a node's memory made ahead of it. -/
theorem kindB (p : Nat) (ks : List Int) (n : Nat) (cs : Array Value) (o : Obj) (w : World) (hp : p < w.heap.size) (hn : ks.length = n) (hc : cs.toList = intCells ks) (hb : ks.length ≤ 1000) :
    Calls Tryz.prog 68 #[.slice (some ⟨w.heap.size + 1, 0, none⟩) n n] ((w.alloc o).alloc (.cells cs 43)).drew fun e w' => ∃ v, e = .returned v ∧ IsTest p w' v (isKind ks) ∧ Below w.heap.size w w' ∧ w'.heap[w.heap.size]? = some o := by
  have K := kindD p ks n cs (w.alloc o) (by simp; omega) hn hc hb
  rw [show (w.alloc o).heap.size = w.heap.size + 1 by simp] at K
  refine K.mono ?_
  rintro e w' ⟨v, rfl, h1, h2⟩
  exact ⟨v, rfl, h1, (lit_below w o).trans (h2.mono (by simp)), (h2.block _ (by simp)).trans (new_blk w o)⟩
/-- The literal's kinds, a node's memory made behind it. -/
theorem kindC (p : Nat) (ks : List Int) (n : Nat) (cs : Array Value) (o : Obj) (w : World) (hp : p < w.heap.size) (hn : ks.length = n) (hc : cs.toList = intCells ks) (hb : ks.length ≤ 1000) :
    Calls Tryz.prog 68 #[.slice (some ⟨w.heap.size, 0, none⟩) n n] ((w.alloc (.cells cs 43)).alloc o).drew fun e w' => ∃ v, e = .returned v ∧ IsTest p w' v (isKind ks) ∧ Below w.heap.size w w' ∧ w'.heap[w.heap.size + 1]? = some o := by
  have hl := lit_cells w cs 43
  rw [hc] at hl
  have hl2 : CellsIn ((w.alloc (.cells cs 43)).alloc o) w.heap.size 0 (intCells ks) := fun j u hj => (World.cell?_alloc_old _ o _ (by simp)).trans (hl j u hj)
  have b1 : Below w.heap.size w ((w.alloc (.cells cs 43)).alloc o) := (lit_below w _).alloc (by simp) o
  refine (kind_any p ks w.heap.size 0 n n ((w.alloc (.cells cs 43)).alloc o).drew (by simp; omega) hn (by omega) (by simp; omega) (by omega) hl2).mono ?_
  rintro e w' ⟨v, rfl, h1, h2⟩
  refine ⟨v, rfl, h1, b1.drew.trans (h2.mono (by simp; omega)), (h2.block (w.heap.size + 1) (by simp)).trans ?_⟩
  have := new_blk (w.alloc (.cells cs 43)) o
  rwa [show (w.alloc (.cells cs 43)).heap.size = w.heap.size + 1 by simp] at this
/-- What the region leaves. -/
def NodeAt (C : Cfg) (p : Nat) (dp : Int) (s : St) (k : Int) (t : ByteArray) (W : World) (X : Nat) (w' : World) : Prop := W.heap.size ≤ X ∧ X ≠ p ∧ w'.heap[X]? = some (.cells #[.int .i64 k, .string t, .int .i64 0, .int .i64 0] 37 (0, 0)) ∧ PS C p dp s w' ∧ Bar p W w'
theorem NodeAt.of_set {C : Cfg} {p : Nat} {dp : Int} {s : St} {k : Int} {t : ByteArray} {W : World} {X : Nat} {w : World} (hX : W.heap.size ≤ X) (hp : p < W.heap.size) (hz : w.heap[X]? = some (.cells zn 37 (0, 0))) (hP : PS C p dp s w) (hB : Bar p W w) :
    NodeAt C p dp s k t W X ((((w.setCell ⟨X, 0, none⟩ (.int .i64 k)).setCell ⟨X, 1, none⟩ (.string t)).setCell ⟨X, 2, none⟩ (.int .i64 0)).setCell ⟨X, 3, none⟩ (.int .i64 0)) :=
  have h : p < X := by omega
  ⟨hX, by omega, zn_set hz _ _ _ _, (((hP.setOff h 0 _).setOff h 1 _).setOff h 2 _).setOff h 3 _, (((hB.setNew hX 0 _).setNew hX 1 _).setNew hX 2 _).setNew hX 3 _⟩
end Go.Proofs.YtggjckalmlploaaGreatDoor
