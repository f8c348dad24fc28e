/- Texts of this seat, one behind the other: ParF, ParR, ParG. -/
import Derived.Test.YtggjckalmlploaaGreatDoorKn30
/- The parser: forms, leaves. -/
set_option maxRecDepth 100000
namespace Go.Proofs.YtggjckalmlploaaGreatDoor
open Go.Shelf Go.RowKit Go.Lib Go.Proofs.TreeMath Go.Proofs.LexMath Go.Proofs.FixMath Go.Proofs.ParMath
/-- Another row is appended. -/
theorem wpList_pushs {ops : Array Oper} {rest : List Oper} {o : Oper} {a : Act} {w : World} {Q : Exit → Act → World → Prop} (hgd : o.guard = none) (s x : Operand)
    (ho : o.op = .call { callee := .builtin .append, args := #[s, x], argTypes := #[38, 38] }) (B : Nat) (v : Value) (Ls : List (List Nd)) (hs : a.eval s = v) (hrow : LRow B w v Ls) (B2 : Nat) (q : Option Addr) (m c : Nat) (Ms : List (List Nd)) (hx : a.eval x = .slice q m c) (hm : Ms.length = m) (hsrc : LRow B2 w (.slice q m c) Ms) (hB2 : B ≤ B2) (hg2 : ∀ g, v.ownBlock = some g → g < B2) (hlen : Ls.length + m ≤ 100000) (hB : B ≤ w.heap.size)
    (h : ∀ p' cap' w', LRow B w' (.slice p' (Ls.length + m) cap') (Ls ++ Ms) → Below B w w' → wpList Tryz.prog ops Q rest (a.put o.dst (.slice p' (Ls.length + m) cap')) w') : wpList Tryz.prog ops Q (o :: rest) a w := by
  obtain ⟨i0, hi, hz, hsz, hby⟩ := infoNodes
  obtain ⟨vs, h1, h2, h3, h5⟩ := hrow
  obtain ⟨us, g1, g2, g3, g5⟩ := hsrc
  have hul : us.length = Ms.length := by have := g1.1; omega
  refine wpList_append_any w hgd s x 38 ho B 25 i0 (.slice none 0 0) 1 24 Tryz.underlying38 hi hz hsz hby rfl (by decide) v Ls.length vs hs h1 q m c us hx (by rw [hul, hm]; omega) (fun hm0 => ?_) (fun y hy => ?_) (by unfold maxLen; omega) (by omega) hB ?_
  · obtain ⟨_, q', c', e, _, _, h4⟩ := SliceAt.of_owns g1
    simp only [Value.slice.injEq] at e
    obtain ⟨b, off, rfl, _, hc⟩ := h4 (by omega)
    rw [e.1]
    exact ⟨_, rfl, hc.at⟩
  · exact vs_one hul g2 y hy
  · intro p' cap' w' hown hgrow hblk
    have hvl : vs.length = Ls.length := by have := h1.1; omega
    have hbel : Below B w w' := (Below.refl B w).grown hgrow hB fun k hk => (World.ownsRow.there h1 hk).1
    have el : ∀ i, i < Ls.length → (vs ++ us).getD i default = vs.getD i default ∧ (Ls ++ Ms).getD i [] = Ls.getD i [] := fun i hi =>
      ⟨by rw [List.getD_eq_getElem?_getD, List.getElem?_append_left (by omega), ← List.getD_eq_getElem?_getD], by rw [List.getD_eq_getElem?_getD, List.getElem?_append_left hi, ← List.getD_eq_getElem?_getD]⟩
    have er : ∀ i, ¬ i < Ls.length → (vs ++ us).getD i default = us.getD (i - Ls.length) default ∧ (Ls ++ Ms).getD i [] = Ms.getD (i - Ls.length) [] := fun i hi =>
      ⟨by rw [List.getD_eq_getElem?_getD, List.getElem?_append_right (by omega), hvl, ← List.getD_eq_getElem?_getD], by rw [List.getD_eq_getElem?_getD, List.getElem?_append_right (by omega), ← List.getD_eq_getElem?_getD]⟩
    refine h p' cap' w' ⟨vs ++ us, by rw [List.length_append, hm]; exact hown, fun i hi => ?_, fun i hi h0 g hg => ?_, fun i hi => ?_⟩ hbel
    · rw [List.length_append] at hi
      by_cases hil : i < Ls.length
      · rw [(el i hil).1, (el i hil).2]
        exact slice_grown (h2 i hil) hgrow fun k hk h0 => h3 i hil h0 k hk
      · rw [(er i hil).1, (er i hil).2]
        exact slice_grown (g2 _ (by omega)) hgrow fun k hk _ => fresh_off (g5 _ (by omega)) (hg2 k hk)
    · rw [List.length_append] at hi
      rw [hg] at hblk
      have hcase : v.ownBlock = some g ∨ g = w.heap.size := by
        rcases hblk with e | e
        · exact .inl e.symm
        · exact .inr (Option.some.inj e)
      have key : ∀ y ms, NodesAt w y ms → ms.length ≠ 0 → (∀ k, v.ownBlock = some k → Off k y) → Off g y := fun y ms hy h0 hk => by
        rcases hcase with e | rfl
        · exact hk g e
        · exact nodes_off hy h0
      by_cases hil : i < Ls.length
      · rw [(el i hil).2] at h0
        rw [(el i hil).1]
        exact key _ _ (h2 i hil) h0 (h3 i hil h0)
      · rw [(er i hil).2] at h0
        rw [(er i hil).1]
        exact key _ _ (g2 _ (by omega)) h0 fun k hk => fresh_off (g5 _ (by omega)) (hg2 k hk)
    · rw [List.length_append] at hi
      by_cases hil : i < Ls.length
      · rw [(el i hil).1]
        exact h5 i hil
      · rw [(er i hil).1]
        exact (g5 _ (by omega)).mono hB2
/-- What is known one deeper inside. -/
structure Env (C : Cfg) (p : Nat) (dp : Int) (E P : Par) : Prop where
  e : EOK C p dp 17 E
  q : EOK C p dp 89 P
  zE : Sz 1000 E
  zP : Sz 1000 P
  rowed : Rowed C
theorem cw_le (ws : List ByteArray) : cw ws ≤ ws.length := by
  induction ws with
  | nil => simp [cw]
  | cons x ws ih =>
    unfold cw
    simp only [List.length_cons]
    repeat' split
    all_goals omega
theorem parts_len {C : Cfg} {p : Nat} {dp : Int} {E P : Par} (V : Env C p dp E P) (ws : List ByteArray) {s : St} (h : Lim s.rest) : (parts0 C E P ws s).1.2.length ≤ ws.length ∧ (parts0 C E P ws s).1.2.flatten.length ≤ 3500 + ws.length := by
  have := partsM_sz V.zE V.zP (C := C) ws ByteArray.empty [] s h.2 (size_empty _) (Vx.nil _)
  have hc := cw_le ws
  have hl := h.1
  unfold parts0
  simp only [List.flatten_nil, List.length_nil, Nat.zero_add] at this
  exact ⟨by omega, by omega⟩
set_option maxHeartbeats 4000000 in
theorem form_any {C : Cfg} {p : Nat} {dp : Int} {E P : Par} (V : Env C p dp E P) (k : Int) (x : ByteArray) (ws : List ByteArray) (hx : Rule x ws) (s : St) (w0 : World) (h : PS C p dp s w0) :
    Calls Tryz.prog 37 #[.pointer (some ⟨p, 0, none⟩), .int .i64 k, .string x] w0 (NP C p dp (formM C E P k ws s) w0) := by
  have hlen := parts_len V ws h.lim
  have hws := hx.len
  have K := Lib.hid (parts_any C p dp E P V.e V.q x ws hx s w0 h)
  have hM : formM C E P k ws s = (makeN ⟨k, (parts0 C E P ws s).1.1, 0, 0⟩ (parts0 C E P ws s).1.2, (parts0 C E P ws s).2) := rfl
  rw [hM]
  generalize parts0 C E P ws s = R at K hlen ⊢
  obtain ⟨⟨nm, kids⟩, s1⟩ := R
  simp only at K hlen ⊢
  clear h hx V hM
  go_enter Tryz.func37, Tryz.ntmps37
  go_wp2_with fail
  refine K.out.mono ?_
  rintro e w1 ⟨kv, rfl, hrow, hP, hB⟩
  obtain ⟨q, c, rfl⟩ := hrow.form
  have MK := Lib.hid (makeF_any ⟨k, nm, 0, 0⟩ _ kids w1 hrow.at ⟨by omega, by omega⟩)
  have P1 := Lib.hid hP
  have B1 := Lib.hid hB
  clear hrow hP hB hlen
  unfold Nd.val at MK
  go_wp2_with fail
  refine MK.out.mono ?_
  rintro e w2 ⟨v, rfl, hv, hfr, hb⟩
  have V2 := Lib.hid hv
  have F2 := Lib.hid hfr
  have H2 := Lib.hid hb
  clear hv hfr hb
  go_wp2_with fail
  go_ret
  exact ⟨_, rfl, V2.out, F2.out.mono B1.out.size, P1.out.below H2.out, B1.out.step H2.out⟩
theorem leaf_any (p : Nat) (w : World) (hp : p < w.heap.size) : Calls Tryz.prog 92 #[] w fun e w' => ∃ v, e = .returned v ∧ IsTest p w' v (isKind leafK) ∧ Below w.heap.size w w' := by
  have K := Lib.hid (kindL p leafK 4 #[.int .i64 3, .int .i64 4, .int .i64 2, .int .i64 1] w hp rfl rfl (by decide))
  go_enter Tryz.func92, Tryz.ntmps92
  go_wp2_with fail
  refine K.out.mono ?_
  rintro e w1 ⟨v, rfl, hT, hb⟩
  have T := Lib.hid hT
  have B := Lib.hid hb
  clear hT hb
  go_wp2_with fail
  go_ret
  exact ⟨_, rfl, T.out, B.out⟩
end Go.Proofs.YtggjckalmlploaaGreatDoor
/- The parser's rules, as words. -/
set_option maxRecDepth 100000
namespace Go.Proofs.YtggjckalmlploaaGreatDoor
open Go.Shelf Go.RowKit Go.Lib Go.Proofs.TreeMath Go.Proofs.LexMath Go.Proofs.FixMath Go.Proofs.ParMath
theorem rule_of (x : ByteArray) (ws : List ByteArray) (h1 : x.size < 1000) (h2 : (x.data.toList.all fun b => decide (b.toNat < 128)) = true) (h3 : Lib.fields x.data.toList = ws.map fun w => w.data.toList) (h4 : ws.length ≤ 50) : Rule x ws where
  size := h1
  ascii := fun j b hb => by
    have := List.all_eq_true.1 h2 b (List.mem_of_getElem? hb)
    simpa using this
  fields := by
    rw [h3, List.map_map]
    refine List.map_congr_left fun w _ => ?_
    rfl
  len := h4
theorem rule_fun : Rule ⟨#[102, 117, 110, 32, 98, 105, 110, 100, 32, 45, 62, 32, 101, 120, 112, 114]⟩ rFun := rule_of _ _ (by decide) (by decide +kernel) (by decide +kernel) (by decide)
theorem rule_rec : Rule ⟨#[108, 101, 116, 32, 114, 101, 99, 32, 98, 105, 110, 100, 32, 61, 32, 101, 120, 112, 114, 32, 105, 110, 32, 101, 120, 112, 114]⟩ rRec := rule_of _ _ (by decide) (by decide +kernel) (by decide +kernel) (by decide)
theorem rule_let : Rule ⟨#[108, 101, 116, 32, 98, 105, 110, 100, 32, 61, 32, 101, 120, 112, 114, 32, 105, 110, 32, 101, 120, 112, 114]⟩ rLet := rule_of _ _ (by decide) (by decide +kernel) (by decide +kernel) (by decide)
theorem rule_if : Rule ⟨#[105, 102, 32, 101, 120, 112, 114, 32, 116, 104, 101, 110, 32, 101, 120, 112, 114, 32, 101, 108, 115, 101, 32, 101, 120, 112, 114]⟩ rIf := rule_of _ _ (by decide) (by decide +kernel) (by decide +kernel) (by decide)
theorem rule_raise : Rule ⟨#[114, 97, 105, 115, 101, 32, 101, 120, 112, 114]⟩ rRaise := rule_of _ _ (by decide) (by decide +kernel) (by decide +kernel) (by decide)
theorem rule_try : Rule ⟨#[116, 114, 121, 32, 101, 120, 112, 114, 32, 119, 105, 116, 104, 32, 98, 105, 110, 100, 32, 45, 62, 32, 101, 120, 112, 114]⟩ rTry := rule_of _ _ (by decide) (by decide +kernel) (by decide +kernel) (by decide)
theorem rule_paren : Rule ⟨#[40, 32, 101, 120, 112, 114, 32, 41]⟩ rParen := rule_of _ _ (by decide) (by decide +kernel) (by decide +kernel) (by decide)
theorem rule_ppat : Rule ⟨#[40, 32, 112, 97, 116, 32, 41]⟩ rPPat := rule_of _ _ (by decide) (by decide +kernel) (by decide +kernel) (by decide)
theorem rule_match : Rule ⟨#[109, 97, 116, 99, 104, 32, 101, 120, 112, 114, 32, 119, 105, 116, 104, 32, 112, 97, 116, 32, 45, 62, 32, 101, 120, 112, 114]⟩ rMatch := rule_of _ _ (by decide) (by decide +kernel) (by decide +kernel) (by decide)
theorem rule_arm : Rule ⟨#[124, 32, 112, 97, 116, 32, 45, 62, 32, 101, 120, 112, 114]⟩ rArm := rule_of _ _ (by decide) (by decide +kernel) (by decide +kernel) (by decide)
end Go.Proofs.YtggjckalmlploaaGreatDoor
/- The parser: match, atoms. -/
set_option maxRecDepth 100000
namespace Go.Proofs.YtggjckalmlploaaGreatDoor
open Go.Shelf Go.RowKit Go.Lib Go.Proofs.TreeMath Go.Proofs.LexMath Go.Proofs.FixMath Go.Proofs.ParMath
/-- How many tokens are left, as a world has it. -/
def left (p : Nat) (w : World) : Nat := match w.cell? ⟨p, 0, none⟩ with | some (.slice _ n _) => n | _ => 0
theorem PS.left {C : Cfg} {p : Nat} {dp : Int} {s : St} {w : World} (h : PS C p dp s w) : left p w = s.rest.length := by
  obtain ⟨q, c, h0⟩ := h.c0
  unfold YtggjckalmlploaaGreatDoor.left
  rw [h0]
set_option maxHeartbeats 4000000 in
theorem match_any {C : Cfg} {p : Nat} {dp : Int} {E P : Par} (V : Env C p dp E P) (s : St) (w0 : World) (h : PS C p dp s w0) (hs : sees [isKey wMatch] s.rest = true) :
    Calls Tryz.prog 124 #[.pointer (some ⟨p, 0, none⟩)] w0 (NP C p dp (matchM C E P s) w0) := by
  have hz := arms0_sz V.zE V.zP (C := C) s h.lim.2 hs
  have hl := h.lim.1
  have hpl := h.lt
  have K := Lib.hid (parts_any C p dp E P V.e V.q _ rMatch rule_match s w0 h)
  have hk := parts_len V rMatch (C := C) h.lim
  have hk1 : rMatch.length = 6 := rfl
  obtain ⟨R, hR⟩ : ∃ R, R = arms0 C E P s := ⟨_, rfl⟩
  rw [← hR] at hz
  have hM : matchM C E P s = (makeN ⟨10, ByteArray.empty, 0, 0⟩ R.1, (take C (isKey wEnd) R.2).2) := by rw [hR]; rfl
  rw [hM]
  have HZ := Lib.hid hz
  have hR2 : R = armsM C E P 1000 (parts0 C E P rMatch s).1.2 (parts0 C E P rMatch s).2 := hR
  have hrl : (parts0 C E P rMatch s).2.rest.length ≤ s.rest.length := (parts0_sz V.zE V.zP (C := C) wMatch [wExpr, wWith, wPat, wArrow, wExpr] (by decide) s h.lim.2).2.2.2.2.2.1
  generalize parts0 C E P rMatch s = R0 at K hk hR2 hrl
  obtain ⟨⟨nm0, kids0⟩, s0⟩ := R0
  simp only at K hk hR2 hrl
  have HR := Lib.hid hR2
  have HV := Lib.hid V
  clear h hR hR2 hz V hM
  go_enter Tryz.func124, Tryz.ntmps124
  go_wp2_with fail
  refine K.out.mono ?_
  rintro e w1 ⟨kv0, rfl, hrow, hP, hB⟩
  have ROW1 := Lib.hid hrow
  have P1 := Lib.hid hP
  have B1 := Lib.hid hB
  clear hrow hP hB
  go_wp2_with fail
  go_loopw [4, 5, 6] (fun s4 _ _ wr => ∃ (k : Nat) (kids : List (List Nd)) (s' : St) (kv : Value), s4 = kv ∧ LRow w0.heap.size wr kv kids ∧ PS C p dp s' wr ∧ Bar p w0 wr ∧ R = armsM C E P k kids s' ∧ s'.rest.length ≤ k ∧ kids.length + 2 * s'.rest.length ≤ 2000) (fun _ _ _ wr => left p wr)
  case atStart => exact ⟨1000, kids0, s0, _, rfl, ROW1.out, P1.out, B1.out, HR.out, by omega, by omega⟩
  case round =>
    obtain ⟨wo, hwo⟩ : ∃ wo : World, wo = wr := ⟨_, rfl⟩
    subst hwo
    obtain ⟨k, kids, s', kv, rfl, hrow, hPo, hBo, hRo, hkk, hkl⟩ := hrel
    obtain ⟨q, c, rfl⟩ := hrow.form
    generalize hkn : kids.length = kn at *
    have ROW0 := Lib.hid hrow
    have P0 := Lib.hid hPo
    have B0 := Lib.hid hBo
    have RO := Lib.hid hRo
    have hLEFT := Lib.hid hPo.left
    clear hrow hPo hBo hRo
    go_wp2_with fail
    refine (key_any p ⟨#[124]⟩ _ P0.out.lt).mono ?_
    rintro e w1 ⟨v1, rfl, hT, hb⟩
    obtain ⟨g1, cap1, rfl⟩ := hT.form
    have T1 := Lib.hid hT; have P1 := Lib.hid (P0.out.below hb); have B1 := Lib.hid (B0.out.step hb)
    have BB1 := Lib.hid hb
    clear hT hb
    go_wp2_with fail
    refine (sees1_any P1.out T1.out).mono ?_
    rintro e w2 ⟨rfl, hb⟩
    have P2 := Lib.hid (P1.out.below hb); have B2 := Lib.hid (B1.out.step hb)
    have T1 := Lib.hid (T1.out.below hb)
    have BB2 := Lib.hid hb
    clear hb
    have BX2 := Lib.hid ((Bar.of_below (p := p) BB1.out).trans (Bar.of_below (p := p) BB2.out))
    have ROW2 := Lib.hid (ROW0.out.bar hpl P0.out.noStr BX2.out)
    cases hv : sees [isKey ⟨#[124]⟩] s'.rest with
    | true =>
      obtain ⟨tk, rs, hrs⟩ := head_of hv
      obtain ⟨k2, rfl⟩ : ∃ k2, k = k2 + 1 := ⟨k - 1, by rw [hrs] at hkk; simp at hkk; omega⟩
      have hz2 := parts0_sz HV.out.zE HV.out.zP (C := C) wBar [wPat, wArrow, wExpr] (by decide) s' P2.out.lim.2
      have hcw : cw [wPat, wArrow, wExpr] = 2 := by decide
      have hz3 := (hz2.2.2.2.2.2.2 hv).2
      have hz4 := hz2.2.1
      rw [hcw] at hz4
      have K2 := parts_any C p dp E P HV.out.e HV.out.q _ rArm rule_arm s' w2 P2.out
      have RO1 : R = armsM C E P k2 (kids ++ (parts0 C E P rArm s').1.2) (parts0 C E P rArm s').2 := by
        rw [RO.out]
        show (if sees [isKey wBar] s'.rest = true then _ else _) = _
        rw [if_pos (show sees [isKey wBar] s'.rest = true from hv)]
      have e : rArm = wBar :: [wPat, wArrow, wExpr] := rfl
      rw [← e] at hz3 hz4
      generalize parts0 C E P rArm s' = R2 at K2 RO1 hz3 hz4
      obtain ⟨⟨nm2, arm⟩, s2⟩ := R2
      simp only at K2 RO1 hz3 hz4
      have K2 := Lib.hid K2
      have RO1 := Lib.hid RO1
      clear hz2 hrs hv e
      go_wp2_with fail
      refine K2.out.mono ?_
      rintro e w3 ⟨kv3, rfl, hrow3, hP3, hB3⟩
      obtain ⟨q3, c3, rfl⟩ := hrow3.form
      have ROW3 := Lib.hid (ROW2.out.bar hpl P2.out.noStr hB3)
      have ARM := Lib.hid hrow3
      have P3 := Lib.hid hP3
      have B3 := Lib.hid (B2.out.trans hB3)
      have hg2 : ∀ g, (Value.slice q kn c).ownBlock = some g → g < w2.heap.size := fun g hg => by
        obtain ⟨vs, hh, _⟩ := ROW2.out
        exact (World.ownsRow.there hh hg).2
      have HG2 := Lib.hid hg2
      have hsz3 := Lib.hid hB3.size
      have HZ4 := Lib.hid hz4
      clear hz4
      clear hrow3 hP3 hB3 hg2
      go_wp2_with ((at_builtin; refine wpList_pushs rfl _ _ rfl w0.heap.size (.slice q kn c) kids rfl ?r1 w2.heap.size q3 arm.length c3 arm rfl ?r2 ?r3 ?r4 ?r5 ?r6 ?r7 ?_; (case r1 => exact ROW3.out); (case r2 => rfl); (case r3 => exact ARM.out); (case r4 => exact B2.out.size); (case r5 => exact HG2.out); (case r6 => rw [HZ4.out]; omega); (case r7 => exact B3.out.size); intro p4 cap4 w4 hrow4 hbel4; rw [hkn] at hrow4; have ROW4 := Lib.hid hrow4; have P4 := Lib.hid (P3.out.behind (hbel4.mono hpl)); have B4 := Lib.hid (show Bar p w0 w4 from ⟨hbel4.os.trans B3.out.os, hbel4.tape.trans B3.out.tape, hbel4.output.trans B3.out.output, Nat.le_trans B3.out.size hbel4.size, fun k hk hp => (hbel4.block k hk).trans (B3.out.block k hk hp)⟩); clear hrow4 hbel4))
      go_roundw
      case rel => exact ⟨k2, _, s2, _, rfl, ROW4.out, P4.out, B4.out, RO1.out, by omega, by rw [List.length_append, hkn, HZ4.out]; omega⟩
      case measure => rw [P4.out.left, hLEFT.out]; omega
    | false =>
      have RO1 : R = (kids, s') := by
        rw [RO.out]
        cases k with
        | zero => rfl
        | succ k =>
          show (if sees [isKey wBar] s'.rest = true then _ else _) = _
          rw [if_neg (by rw [show sees [isKey wBar] s'.rest = false from hv]; simp)]
      have hz := HZ.out
      rw [RO1] at hz
      have RO1 := Lib.hid RO1
      have MKH := Lib.hid (And.intro hz.1 hz.2.1)
      clear hz hv
      go_wp2_with fail
      refine (key_any p ⟨#[101, 110, 100]⟩ _ P2.out.lt).mono ?_
      rintro e w3 ⟨v3, rfl, hT, hb⟩
      obtain ⟨g3, cap3, rfl⟩ := hT.form
      have TK := Lib.hid (takes_any C p dp s' _ (isKey wEnd) w3 (P2.out.below hb) hT)
      have P3 := Lib.hid (P2.out.below hb)
      have B3 := Lib.hid (B2.out.step hb)
      have ROW3 := Lib.hid (ROW2.out.below hb)
      clear hT hb
      go_wp2_with fail
      refine TK.out.mono ?_
      rintro e w4 ⟨t, _, rfl, hP4, hB4⟩
      have P4 := Lib.hid hP4
      have B4 := Lib.hid (B3.out.trans hB4)
      have hat := (ROW3.out.bar hpl P3.out.noStr hB4).at
      have MK := Lib.hid (makeF_any ⟨10, ByteArray.empty, 0, 0⟩ _ kids w4 hat ⟨by omega, by have := MKH.out.1; omega⟩)
      clear hP4 hB4 hat
      unfold Nd.val at MK
      go_wp2_with fail
      refine MK.out.mono ?_
      rintro e w5 ⟨v, rfl, hv, hfr, hb⟩
      have V5 := Lib.hid hv
      have F5 := Lib.hid hfr
      have H5 := Lib.hid hb
      clear hv hfr hb
      go_wp2_with fail
      go_ret
      rw [RO1.out]
      exact ⟨_, rfl, V5.out, F5.out.mono B4.out.size, P4.out.below H5.out, B4.out.step H5.out⟩
end Go.Proofs.YtggjckalmlploaaGreatDoor
