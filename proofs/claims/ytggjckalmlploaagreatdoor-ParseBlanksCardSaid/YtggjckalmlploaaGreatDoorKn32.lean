/- Texts of this seat, one behind the other: ParH, ParK. -/
import Derived.Test.YtggjckalmlploaaGreatDoorKn31
import Derived.Shelf.Spec.SlicesGrow
import Derived.Shelf.Bits.Mul64
/- The parser: atoms. -/
set_option maxRecDepth 100000
namespace Go.Proofs.YtggjckalmlploaaGreatDoor
open Go.Shelf Go.RowKit Go.Lib Go.Proofs.TreeMath Go.Proofs.LexMath Go.Proofs.FixMath Go.Proofs.ParMath
theorem lists_nil (w : World) : ListsAt w (.slice none 0 0) [] := ⟨[], SliceAt.nil w 1, fun i h => by simp at h⟩
/-- A node without kids is made. -/
theorem leafN_any (x : Nd) (w : World) : Calls Tryz.prog 66 #[x.val, .slice none 0 0] w (NRetF w [{ x with kids := 0 }]) :=
  makeF_any x (.slice none 0 0) [] w (lists_nil w) ⟨Nat.zero_le _, Nat.zero_le _⟩
section
variable {C : Cfg} {E P : Par} {s : St}
theorem atom_c1 (h : sees [isKey wMatch] s.rest = true) : atomM C E P s = matchM C E P s := by unfold atomM; rw [if_pos h]
theorem atom_c2 (n1 : sees [isKey wMatch] s.rest = false) (h : sees [isKey wLp, isKind [5]] s.rest = true) : atomM C E P s = ([⟨3, (bindM C s).1, 0, 0⟩], (bindM C s).2) := by unfold atomM; rw [n1, if_neg (by simp), if_pos h]
theorem atom_c3 (n1 : sees [isKey wMatch] s.rest = false) (n2 : sees [isKey wLp, isKind [5]] s.rest = false) (h : sees [isKey wLp] s.rest = true) : atomM C E P s = ((parts0 C E P rParen s).1.2.headD [], (parts0 C E P rParen s).2) := by
  unfold atomM; rw [n1, if_neg (by simp), n2, if_neg (by simp), if_pos h]
theorem atom_c4 (n1 : sees [isKey wMatch] s.rest = false) (n2 : sees [isKey wLp, isKind [5]] s.rest = false) (n3 : sees [isKey wLp] s.rest = false) : atomM C E P s = (leafN (take C (isKind leafK) s).1, (take C (isKind leafK) s).2) := by
  unfold atomM; rw [n1, if_neg (by simp), n2, if_neg (by simp), n3, if_neg (by simp)]
end
set_option maxHeartbeats 8000000 in
theorem atom_any {C : Cfg} {p : Nat} {dp : Int} {E P : Par} (V : Env C p dp E P) (s : St) (w0 : World) (h : PS C p dp s w0) :
    Calls Tryz.prog 93 #[.pointer (some ⟨p, 0, none⟩)] w0 (NP C p dp (atomM C E P s) w0) := by
  have P0 := Lib.hid h
  have B0 := Lib.hid (Bar.refl p w0)
  have HV := Lib.hid V
  clear h V
  obtain ⟨R, hR⟩ : ∃ R, R = atomM C E P s := ⟨_, rfl⟩
  rw [← hR]
  have HR := Lib.hid hR
  clear hR
  go_enter Tryz.func93, Tryz.ntmps93
  go_wp2_with fail
  refine (key_any p ⟨#[109, 97, 116, 99, 104]⟩ _ P0.out.lt).mono ?_
  rintro e w1 ⟨v1, rfl, hT, hb⟩
  obtain ⟨g1, cap1, rfl⟩ := hT.form
  have T1 : Hid (IsTest p w1 (.func (.func g1) #[] cap1) (isKey wMatch)) := Lib.hid hT; have P1 := Lib.hid (P0.out.below hb); have B1 := Lib.hid (B0.out.step hb)
  clear hT hb
  go_wp2_with fail
  refine (sees1_any P1.out T1.out).mono ?_
  rintro e w2 ⟨rfl, hb⟩
  have P2 := Lib.hid (P1.out.below hb); have B2 := Lib.hid (B1.out.step hb)
  have T1 := Lib.hid (T1.out.below hb)
  clear hb
  cases hv1 : sees [isKey wMatch] s.rest with
  | true =>
    have RM := HR.out.trans (atom_c1 hv1)
    have K := match_any HV.out s w2 P2.out hv1
    generalize matchM C E P s = X at K RM
    have K := Lib.hid K
    have RM := Lib.hid RM
    clear hv1
    go_wp2_with fail
    refine K.out.mono ?_
    rintro e w9 ⟨v, rfl, hv, hfr, hP, hB⟩
    have A1 := Lib.hid hv
    have A2 := Lib.hid hfr
    have A3 := Lib.hid hP
    have A4 := Lib.hid hB
    clear hv hfr hP hB
    go_wp2_with fail
    go_ret
    rw [RM.out]
    exact ⟨_, rfl, A1.out, A2.out.mono B2.out.size, A3.out, B2.out.trans A4.out⟩
  | false =>
    have N1 := Lib.hid hv1
    clear hv1
    go_wp2_with fail
    refine (key_any p ⟨#[40]⟩ _ P2.out.lt).mono ?_
    rintro e w3 ⟨v3, rfl, hT, hb⟩
    obtain ⟨g3, cap3, rfl⟩ := hT.form
    have T2 : Hid (IsTest p w3 (.func (.func g3) #[] cap3) (isKey wLp)) := Lib.hid hT; have P3 := Lib.hid (P2.out.below hb); have B3 := Lib.hid (B2.out.step hb)
    clear hT hb
    go_wp2_with fail
    refine (kindL p [5] _ _ _ P3.out.lt rfl rfl (by decide)).mono ?_
    rintro e w4 ⟨v4, rfl, hT, hb⟩
    obtain ⟨g4, cap4, rfl⟩ := hT.form
    have T3 := Lib.hid hT; have P4 := Lib.hid (P3.out.below hb); have B4 := Lib.hid (B3.out.step hb)
    have T2 := Lib.hid (T2.out.below hb)
    clear hT hb
    go_wp2_with fail
    refine (sees2_any P4.out T2.out T3.out).mono ?_
    rintro e w5 ⟨rfl, hb⟩
    have P5 := Lib.hid (P4.out.below hb); have B5 := Lib.hid (B4.out.step hb)
    have T2 := Lib.hid (T2.out.below hb)
    have T3 := Lib.hid (T3.out.below hb)
    clear hb
    cases hv2 : sees [isKey wLp, isKind [5]] s.rest with
    | true =>
      have RM := HR.out.trans (atom_c2 N1.out hv2)
      have K := bind_any C p dp s w5 P5.out
      generalize bindM C s = X at K RM
      have K := Lib.hid K
      have RM := Lib.hid RM
      clear hv2
      go_wp2_with fail
      refine K.out.mono ?_
      rintro e w9 ⟨x, rfl, rfl, hP, hB⟩
      have A3 := Lib.hid hP
      have A4 := Lib.hid hB
      clear hP hB
      have MK := Lib.hid (leafN_any ⟨3, X.1, 0, 0⟩ w9)
      unfold Nd.val at MK
      go_wp2_with fail
      refine MK.out.mono ?_
      rintro e w10 ⟨v, rfl, hv, hfr, hb⟩
      have M1 := Lib.hid hv
      have M2 := Lib.hid hfr
      have M3 := Lib.hid hb
      clear hv hfr hb
      go_wp2_with fail
      go_ret
      rw [RM.out]
      exact ⟨_, rfl, M1.out, M2.out.mono (B5.out.trans A4.out).size, A3.out.below M3.out, (B5.out.trans A4.out).step M3.out⟩
    | false =>
      have N2 := Lib.hid hv2
      clear hv2
      go_wp2_with fail
      refine (key_any p ⟨#[40]⟩ _ P5.out.lt).mono ?_
      rintro e w6 ⟨v6, rfl, hT, hb⟩
      obtain ⟨g6, cap6, rfl⟩ := hT.form
      have T4 : Hid (IsTest p w6 (.func (.func g6) #[] cap6) (isKey wLp)) := Lib.hid hT; have P6 := Lib.hid (P5.out.below hb); have B6 := Lib.hid (B5.out.step hb)
      clear hT hb
      go_wp2_with fail
      refine (sees1_any P6.out T4.out).mono ?_
      rintro e w7 ⟨rfl, hb⟩
      have P7 := Lib.hid (P6.out.below hb); have B7 := Lib.hid (B6.out.step hb)
      have T4 := Lib.hid (T4.out.below hb)
      clear hb
      cases hv3 : sees [isKey wLp] s.rest with
      | true =>
        have RM := HR.out.trans (atom_c3 N1.out N2.out hv3)
        have K := parts_any C p dp E P HV.out.e HV.out.q _ rParen rule_paren s w7 P7.out
        have hlen := (parts0_sz HV.out.zE HV.out.zP (C := C) wLp [wExpr, wRp] (by decide) s P0.out.lim.2).2.1
        rw [show cw [wExpr, wRp] = 1 by decide, show wLp :: [wExpr, wRp] = rParen from rfl] at hlen
        generalize parts0 C E P rParen s = X at K hlen RM
        obtain ⟨⟨nm, kids⟩, s1⟩ := X
        simp only at K hlen RM
        have K := Lib.hid K
        have RM := Lib.hid RM
        clear hv3
        go_wp2_with fail
        refine K.out.mono ?_
        rintro e w9 ⟨kv, rfl, hrow, hP, hB⟩
        obtain ⟨q, c, rfl⟩ := hrow.form
        obtain ⟨b, u, rfl, hu, hn, hfr⟩ := hrow.get 0 (by omega)
        have hh : kids.headD [] = kids.getD 0 [] := by cases kids <;> rfl
        rw [← hh] at hn
        have A1 := Lib.hid hn
        have A2 := Lib.hid hfr
        have A3 := Lib.hid hP
        have A4 := Lib.hid hB
        obtain ⟨q2, n2, c2, rfl⟩ : ∃ q n c, u = .slice q n c := by obtain ⟨_, q, c, e, _⟩ := hn; exact ⟨q, _, c, e⟩
        have hl0 : (0 : Int) < (kids.length : Int) := by omega
        clear hrow hn hfr hP hB hh hlen
        go_wp2_with fail
        go_ret
        rw [RM.out]
        exact ⟨_, rfl, A1.out, A2.out.mono B7.out.size, A3.out, B7.out.trans A4.out⟩
      | false =>
        have RM := Lib.hid (HR.out.trans (atom_c4 N1.out N2.out hv3))
        clear hv3
        go_wp2_with fail
        refine (leaf_any p _ P7.out.lt).mono ?_
        rintro e w8 ⟨v8, rfl, hT, hb⟩
        obtain ⟨g8, cap8, rfl⟩ := hT.form
        have T9 := hT; have P8 := Lib.hid (P7.out.below hb); have B8 := Lib.hid (B7.out.step hb)
        have K := takes_any C p dp s _ (isKind leafK) w8 P8.out T9
        generalize take C (isKind leafK) s = X at K RM
        obtain ⟨⟨tk, tx, tn, ta⟩, s1⟩ := X
        simp only at K RM
        have K := Lib.hid K
        clear hT hb T9
        go_wp2_with fail
        refine K.out.mono ?_
        rintro e w8 ⟨t, rfl, rfl, hP, hB⟩
        have P8 := Lib.hid hP
        have A4 := Lib.hid (hB.alloc (.cells #[.int .i64 tk, .string tx, .int .i64 tn, .int .i64 ta] 45))
        have A3 := Lib.hid (hP.below (lit_below w8 (.cells #[.int .i64 tk, .string tx, .int .i64 tn, .int .i64 ta] 45)))
        clear hP hB
        by_cases h3 : tk = 3
        · subst h3
          have RM := Lib.hid (show R = ([⟨1, ⟨#[]⟩, tn, 0⟩], s1) from by rw [RM.out]; unfold leafN; rfl)
          obtain ⟨w9, hw9⟩ : ∃ w9 : World, w9 = w8.alloc (.cells #[.int .i64 3, .string tx, .int .i64 tn, .int .i64 ta] 45) := ⟨_, rfl⟩
          have MK := Lib.hid (leafN_any ⟨1, ⟨#[]⟩, tn, 0⟩ w9)
          unfold Nd.val at MK
          rw [← hw9] at A3 A4
          have MK2 := MK.out
          rw [hw9] at MK2
          have MK := Lib.hid MK2
          have HW9 := Lib.hid hw9
          clear MK2 hw9
          go_wp2_with fail
          refine MK.out.mono ?_
          rintro e w10 ⟨v, rfl, hv, hfr, hb⟩
          rw [← HW9.out] at hb hfr
          have M1 := Lib.hid hv
          have M2 := Lib.hid hfr
          have M3 := Lib.hid hb
          clear hv hfr hb
          go_wp2_with fail
          go_ret
          rw [RM.out]
          exact ⟨_, rfl, M1.out, M2.out.mono (B8.out.trans A4.out).size, A3.out.below M3.out, (B8.out.trans A4.out).step M3.out⟩
        by_cases h4 : tk = 4
        · subst h4
          have RM := Lib.hid (show R = ([⟨2, tx, 0, 0⟩], s1) from by rw [RM.out]; unfold leafN; rfl)
          obtain ⟨w9, hw9⟩ : ∃ w9 : World, w9 = w8.alloc (.cells #[.int .i64 4, .string tx, .int .i64 tn, .int .i64 ta] 45) := ⟨_, rfl⟩
          have MK := Lib.hid (leafN_any ⟨2, tx, 0, 0⟩ w9)
          unfold Nd.val at MK
          rw [← hw9] at A3 A4
          have MK2 := MK.out
          rw [hw9] at MK2
          have MK := Lib.hid MK2
          have HW9 := Lib.hid hw9
          clear MK2 hw9
          go_wp2_with fail
          refine MK.out.mono ?_
          rintro e w10 ⟨v, rfl, hv, hfr, hb⟩
          rw [← HW9.out] at hb hfr
          have M1 := Lib.hid hv
          have M2 := Lib.hid hfr
          have M3 := Lib.hid hb
          clear hv hfr hb
          go_wp2_with fail
          go_ret
          rw [RM.out]
          exact ⟨_, rfl, M1.out, M2.out.mono (B8.out.trans A4.out).size, A3.out.below M3.out, (B8.out.trans A4.out).step M3.out⟩
        by_cases h2 : tk = 2
        · subst h2
          have RM := Lib.hid (show R = ([⟨4, tx, 0, 0⟩], s1) from by rw [RM.out]; unfold leafN; rfl)
          obtain ⟨w9, hw9⟩ : ∃ w9 : World, w9 = w8.alloc (.cells #[.int .i64 2, .string tx, .int .i64 tn, .int .i64 ta] 45) := ⟨_, rfl⟩
          have MK := Lib.hid (leafN_any ⟨4, tx, 0, 0⟩ w9)
          unfold Nd.val at MK
          rw [← hw9] at A3 A4
          have MK2 := MK.out
          rw [hw9] at MK2
          have MK := Lib.hid MK2
          have HW9 := Lib.hid hw9
          clear MK2 hw9
          go_wp2_with fail
          refine MK.out.mono ?_
          rintro e w10 ⟨v, rfl, hv, hfr, hb⟩
          rw [← HW9.out] at hb hfr
          have M1 := Lib.hid hv
          have M2 := Lib.hid hfr
          have M3 := Lib.hid hb
          clear hv hfr hb
          go_wp2_with fail
          go_ret
          rw [RM.out]
          exact ⟨_, rfl, M1.out, M2.out.mono (B8.out.trans A4.out).size, A3.out.below M3.out, (B8.out.trans A4.out).step M3.out⟩
        have z3 : (tk == 3) = false := by rw [beq_eq_false_iff_ne]; exact h3
        have z4 : (tk == 4) = false := by rw [beq_eq_false_iff_ne]; exact h4
        have z2 : (tk == 2) = false := by rw [beq_eq_false_iff_ne]; exact h2
        have RM := Lib.hid (show R = ([⟨3, tx, 0, 0⟩], s1) from by rw [RM.out]; unfold leafN; simp only [h3, h4, h2]; rfl)
        obtain ⟨w9, hw9⟩ : ∃ w9 : World, w9 = w8.alloc (.cells #[.int .i64 tk, .string tx, .int .i64 tn, .int .i64 ta] 45) := ⟨_, rfl⟩
        have MK := Lib.hid (leafN_any ⟨3, tx, 0, 0⟩ w9)
        unfold Nd.val at MK
        rw [← hw9] at A3 A4
        have MK2 := MK.out
        rw [hw9] at MK2
        have MK := Lib.hid MK2
        have HW9 := Lib.hid hw9
        clear MK2 hw9
        go_wp2_with fail
        refine MK.out.mono ?_
        rintro e w10 ⟨v, rfl, hv, hfr, hb⟩
        rw [← HW9.out] at hb hfr
        have M1 := Lib.hid hv
        have M2 := Lib.hid hfr
        have M3 := Lib.hid hb
        clear hv hfr hb
        go_wp2_with fail
        go_ret
        rw [RM.out]
        exact ⟨_, rfl, M1.out, M2.out.mono (B8.out.trans A4.out).size, A3.out.below M3.out, (B8.out.trans A4.out).step M3.out⟩
end Go.Proofs.YtggjckalmlploaaGreatDoor
/- slices.Grow, slices.Concat at nodes. -/
set_option maxRecDepth 100000
namespace Go.Proofs.YtggjckalmlploaaGreatDoor
open Go.Shelf Go.RowKit Go.Lib Go.Proofs.TreeMath Go.Proofs.LexMath Go.Proofs.FixMath Go.Proofs.ParMath
def growLays_ren : Go.Shelf.Ren := ⟨fun | 4 => 126 | n => n, fun | 22 => 25 | 25 => 37 | 3 => 3 | 4 => 4 | 9 => 9 | 20 => 20 | 0 => 0 | n => n, fun | n => n⟩
theorem growLays : Go.Proofs.Lays8.n4 Tryz.prog growLays_ren where
  mixed := by kernel_rfl
  f4 := ⟨ "slices.Grow[[]triglyph/api.Node,triglyph/api.Node]", by decide, Tryz.func126.trans (congrArg some (by kernel_rfl))⟩
  t0 := Tryz.underlying0
  a0 := Tryz.isAgg0
  z0 := Tryz.sizeOf0
  v0 := Tryz.zeroValue0
  t3 := Tryz.underlying3
  a3 := Tryz.isAgg3
  z3 := Tryz.sizeOf3
  v3 := Tryz.zeroValue3
  t4 := Tryz.underlying4
  a4 := Tryz.isAgg4
  z4 := Tryz.sizeOf4
  v4 := Tryz.zeroValue4
  t9 := Tryz.underlying9
  a9 := Tryz.isAgg9
  z9 := Tryz.sizeOf9
  v9 := Tryz.zeroValue9
  t20 := Tryz.underlying20
  a20 := Tryz.isAgg20
  z20 := Tryz.sizeOf20
  v20 := Tryz.zeroValue20
  t22 := Tryz.underlying25
  a22 := Tryz.isAgg25
  z22 := Tryz.sizeOf25
  v22 := Tryz.zeroValue25
def mulLays_ren : Go.Shelf.Ren := ⟨fun | 212 => 125 | 263 => 139 | 264 => 140 | n => n, fun | 46 => 114 | 51 => 143 | 146 => 171 | 53 => 145 | 148 => 173 | n => n, fun | n => n⟩
theorem mulLays : Go.Proofs.Lays.n212 Tryz.prog mulLays_ren where
  mixed := by kernel_rfl
  f212 := Tryz.func125.trans (congrArg some (by kernel_rfl))
  f263 := Tryz.func139.trans (congrArg some (by kernel_rfl))
  f264 := Tryz.func140.trans (congrArg some (by kernel_rfl))
  t46 := Tryz.underlying114
  a46 := Tryz.isAgg114
  z46 := Tryz.sizeOf114
  v46 := Tryz.zeroValue114
  t51 := Tryz.underlying143
  a51 := Tryz.isAgg143
  z51 := Tryz.sizeOf143
  v51 := Tryz.zeroValue143
  t53 := Tryz.underlying145
  a53 := Tryz.isAgg145
  z53 := Tryz.sizeOf145
  v53 := Tryz.zeroValue145
  t146 := Tryz.underlying171
  a146 := Tryz.isAgg171
  z146 := Tryz.sizeOf171
  v146 := Tryz.zeroValue171
  t148 := Tryz.underlying173
  a148 := Tryz.isAgg173
  z148 := Tryz.sizeOf173
  v148 := Tryz.zeroValue173

def NRow (B : Nat) (w : World) (v : Value) (ns : List Nd) : Prop := w.ownsRow B 37 4 v ns.length (nodeCells ns)
theorem NRow.at {B : Nat} {w : World} {v : Value} {ns : List Nd} (h : NRow B w v ns) : NodesAt w v ns := SliceAt.of_owns h
theorem NRow.fresh {B : Nat} {w : World} {v : Value} {ns : List Nd} (h : NRow B w v ns) : Fresh B v := fun b o n c e => (World.ownsRow.there h (by rw [e]; rfl)).1
theorem grow_nil (n : Nat) (w : World) (hn : n ≤ 1000000) : Calls Tryz.prog 126 #[.slice none 0 0, .int .i64 n] w fun e w' => ∃ v, e = .returned v ∧ NRow w.heap.size w' v [] ∧ Below w.heap.size w w' := by
  obtain ⟨i0, hi, hz, hsz, hby⟩ := infoNode
  by_cases h0 : n = 0
  · subst h0
    refine (Any8.slices_Grow_room growLays none 0 0 0 w (Nat.le_refl _) (by omega) (by omega) (Nat.le_refl _)).mono ?_
    rintro e w' ⟨rfl, rfl⟩
    exact ⟨_, rfl, World.ownsRow_nil _ _ _ _, Below.refl _ _⟩
  · refine (Any8.slices_Grow_grow growLays i0 zeroNode hi hz (by omega) none 0 0 n [] w (Nat.le_refl _) (by omega) (by rw [hby]; omega) (by omega) (by simp) (fun _ => rfl) (fun a h => by cases h)).mono ?_
    rintro e w' ⟨rfl, rfl⟩
    have hge := grownCap_ge w (0 + n) 0 37
    have hcm := grownCap_le_maxLen w (0 + n) 0 37 (by unfold maxLen; omega)
    refine ⟨_, rfl, ⟨rfl, .inr ⟨w.heap.size, _, _, rfl, Nat.le_refl _, heap_alloc_new w.drew _, Nat.zero_le _, hcm, ?_, by simp [nodeCells]⟩⟩, (Below.refl _ _).drew.alloc (by simp) _⟩
    simp only [Array.size_append, size_zeroCells]
    show 0 + _ * 4 + _ * 4 = _ * 4
    change _ ≤ grownCap w (0 + n) 0 37 at hge
    show 0 + (0 + n - 0) * 4 + (grownCap w (0 + n) 0 37 - (0 + n)) * 4 = grownCap w (0 + n) 0 37 * 4
    omega
set_option maxHeartbeats 4000000 in
theorem concat_any (b off c : Nat) (Ls : List (List Nd)) (w : World) (hb : b < w.heap.size) (hL : Hid (Lists w b off Ls)) (hn : Ls.flatten.length ≤ 1000000) (hc : Ls.length ≤ 5000) :
    Calls Tryz.prog 95 #[.slice (some ⟨b, off, none⟩) Ls.length c] w (NRetF w Ls.flatten) := by
  obtain ⟨i0, hi, hz0, hz1, hz2⟩ := infoNode
  have HI := Lib.hid (And.intro hi (And.intro hz0 (And.intro hz1 hz2)))
  clear hi hz0 hz1 hz2
  obtain ⟨N, hN⟩ : ∃ N, N = Ls.flatten.length := ⟨_, rfl⟩
  have hn' : N ≤ 1000000 := by omega
  have HN := Lib.hid hN
  clear hN hn
  go_enter Tryz.func95, Tryz.ntmps95
  go_wp2
  go_loop [3, 11] (fun s i => ∃ k S : Nat, k ≤ Ls.length ∧ i = .int .i64 k ∧ s = .int .i64 S ∧ S = sumTo Ls k) (fun _ i => Ls.length - (RowKit.intOf i).toNat)
  case atStart => exact ⟨0, 0, Nat.zero_le _, rfl, rfl, rfl⟩
  case round =>
    obtain ⟨k, S, hk, rfl, rfl, hS⟩ := hrel
    by_cases hlt : k < Ls.length
    · obtain ⟨p, n, cp, hv, hvl, _⟩ := hL.out.one k hlt
      have hs1 := sumTo_succ Ls k hlt
      have hs2 : S + n ≤ N := by have := sumTo_le Ls (k + 1); rw [HN.out]; omega
      have HS : Hid (S + n = sumTo Ls (k + 1)) := Lib.hid (by omega)
      have hneg : ¬ ((S : Int) + (n : Int) < 0) := by omega
      clear hs1 hS hvl
      go_wp2
      go_round
      case rel => exact ⟨k + 1, S + n, by omega, by go_num, by go_num, HS.out⟩
      case measure => simp [RowKit.intOf]; omega
    · obtain rfl : S = N := by rw [hS, HN.out, show k = Ls.length by omega, sumTo_all]
      clear hS
      have GN := Lib.hid (grow_nil S w hn')
      go_wp2_with fail
      refine GN.out.mono ?_
      rintro e w1 ⟨v1, rfl, hr1, hb1⟩
      have R1 := Lib.hid hr1
      have B1 := Lib.hid hb1
      clear hr1 hb1
      go_wp2_with fail
      go_loopw [6, 27] (fun s i wr => ∃ k : Nat, k ≤ Ls.length ∧ i = .int .i64 k ∧ NRow w.heap.size wr s (Ls.take k).flatten ∧ Below w.heap.size w wr) (fun _ i _ => Ls.length - (RowKit.intOf i).toNat)
      case atStart => exact ⟨0, Nat.zero_le _, rfl, by simpa using R1.out, B1.out⟩
      case round =>
        obtain ⟨wo, hwo⟩ : ∃ wo : World, wo = wr := ⟨_, rfl⟩
        subst hwo
        obtain ⟨k, hk, rfl, hrow, hbel⟩ := hrel
        have ROW := Lib.hid hrow
        have BEL := Lib.hid hbel
        by_cases hlt : k < Ls.length
        · obtain ⟨p, n, cp, hv, hvl, hnode⟩ := (hL.out.below hbel hb).one k hlt
          have hfl := take_flat Ls k hlt
          have hs2 : (Ls.take k).flatten.length + n ≤ S := by
            have h1 := sumTo_le Ls (k + 1)
            have h2 := sumTo_succ Ls k hlt
            rw [HN.out]
            unfold sumTo at h1 h2
            omega
          obtain ⟨_, q', c', e, _, _, h4⟩ := hnode
          simp only [Value.slice.injEq] at e
          have SRC := Lib.hid (show n ≠ 0 → ∃ ad, p = some ad ∧ ∀ j u, (nodeCells (Ls.getD k []))[j]? = some u → wo.cell? (ad.add j) = some u from fun h0 => by
            obtain ⟨bb, oo, rfl, _, hcc⟩ := h4 (by omega)
            exact ⟨_, e.1, hcc.at⟩)
          have LEN := Lib.hid (show (nodeCells (Ls.getD k [])).length = n * 4 from by rw [length_nodeCells, hvl])
          have FL := Lib.hid hfl
          have HV := Lib.hid hvl
          clear h4 e hfl hvl hrow hbel
          obtain ⟨m, hm⟩ : ∃ m, m = (Ls.take k).flatten.length := ⟨_, rfl⟩
          have ROW2 := ROW.out
          unfold NRow at ROW2
          rw [← hm] at ROW2 hs2
          have ROW2 := Lib.hid ROW2
          have HM := Lib.hid hm
          clear hm
          go_wp2_with ((at_builtin; refine wpList_append_any _ rfl _ _ 25 rfl w.heap.size 37 i0 zeroNode 4 40 Tryz.underlying25 HI.out.1 HI.out.2.1 HI.out.2.2.1 HI.out.2.2.2 rfl (by decide) _ m (nodeCells (Ls.take k).flatten) rfl ROW2.out p n cp (nodeCells (Ls.getD k [])) rfl LEN.out SRC.out (nodeCells_one _) (by unfold maxLen; omega) (by omega) BEL.out.size ?_; intro p3 cap3 w3 hown hgrow hblk; have R3 := Lib.hid hown; have B3 := Lib.hid (show Below w.heap.size w w3 from BEL.out.grown hgrow BEL.out.size fun q hq => (World.ownsRow.there ROW2.out hq).1); clear hown hgrow hblk))
          go_roundw
          case rel =>
            refine ⟨k + 1, by omega, by go_num, ?_, B3.out⟩
            have h3 := R3.out
            unfold NRow
            rw [FL.out, List.length_append, ← HM.out, ← HV.out, nodeCells_append]
            exact h3
          case measure => simp [RowKit.intOf]; omega
        · obtain rfl : k = Ls.length := by omega
          clear hrow hbel
          go_wp2_with fail
          go_ret
          have h9 := ROW.out
          rw [List.take_length] at h9
          exact ⟨_, rfl, h9.at, h9.fresh, BEL.out⟩
end Go.Proofs.YtggjckalmlploaaGreatDoor
