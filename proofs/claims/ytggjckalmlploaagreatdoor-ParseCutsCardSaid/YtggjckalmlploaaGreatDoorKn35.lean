/- Texts of this seat, one behind the other: ParEc. -/
import Derived.Test.YtggjckalmlploaaGreatDoorKn34
/- The parser: apps in a row. -/
set_option maxRecDepth 100000
namespace Go.Proofs.YtggjckalmlploaaGreatDoor
open Go.Shelf Go.RowKit Go.Lib Go.Proofs.TreeMath Go.Proofs.LexMath Go.Proofs.FixMath Go.Proofs.ParMath
theorem struct_mem {C : Cfg} (hR : Rowed C) (x : Int) (ops : List Tok) (s : St) : ∀ k ∈ (structM C x ops s).1, (k < 0 ∧ 0 ≤ -1 - k ∧ -1 - k ≤ ops.length) ∨ (0 ≤ k ∧ k < ops.length) := by
  intro k hk
  unfold structM at hk
  cases hb : badOp C ops with
  | some o => rw [hb] at hk; simp at hk
  | none =>
    rw [hb] at hk
    simp only at hk
    rcases hR (needF C ops) (ops.map Tok.text) with h | ⟨h, _⟩
    · rw [h] at hk; cases hk
    · have := rowK_mem _ 0 (Int.le_refl 0) k (h.mem_iff.1 hk)
      rw [List.length_map] at this
      omega
theorem take_fl {α β : Type} (f : α → List β) (l : List α) (k : Nat) : ((l.take k).flatMap f).length ≤ (l.flatMap f).length := by
  have : l.flatMap f = (l.take k).flatMap f ++ (l.drop k).flatMap f := by rw [← List.flatMap_append, List.take_append_drop]
  rw [this, List.length_append]
  omega
theorem take_fm {α β : Type} (f : α → List β) (l : List α) (d : α) (k : Nat) (hk : k < l.length) : (l.take (k + 1)).flatMap f = (l.take k).flatMap f ++ f (l.getD k d) := by
  rw [List.take_add_one, List.flatMap_append, List.getD_eq_getElem?_getD, List.getElem?_eq_getElem hk]
  simp
theorem opsL_yes {C : Cfg} {E P : Par} {k : Nat} {s : St} (h : sees [isKind [5]] s.rest = true) : opsL C E P (k + 1) s = ((((take C (isKind [5]) s).1 :: (opsL C E P k (appM C E P (take C (isKind [5]) s).2).2).1.1), ((appM C E P (take C (isKind [5]) s).2).1 :: (opsL C E P k (appM C E P (take C (isKind [5]) s).2).2).1.2)), (opsL C E P k (appM C E P (take C (isKind [5]) s).2).2).2) := by
  show (if sees [isKind [5]] s.rest = true then _ else _) = _
  rw [if_pos h]
theorem opsL_no {C : Cfg} {E P : Par} {k : Nat} {s : St} (h : sees [isKind [5]] s.rest = false) : opsL C E P k s = (([], []), s) := by
  cases k with
  | zero => rfl
  | succ k =>
    show (if sees [isKind [5]] s.rest = true then _ else _) = _
    rw [if_neg (by rw [h]; simp)]
theorem opsL_stop {C : Cfg} {E P : Par} {k : Nat} {s : St} (h : s.rest = []) : opsL C E P k s = (([], []), s) := opsL_no (by rw [h]; rfl)
/-- A token's literal. -/
theorem tok_lit (w : World) (t : Tok) : ∀ j u, (Lx.tokCells [t])[j]? = some u → (w.alloc (.cells #[.int .i64 t.kind, .string t.text, .int .i64 t.num, .int .i64 t.at_] 45)).cell? ((⟨w.heap.size, 0, none⟩ : Addr).add j) = some u := fun j u hj => by
  have hl := lit_cells w #[.int .i64 t.kind, .string t.text, .int .i64 t.num, .int .i64 t.at_] 45
  rw [Go.WideShapes.add_plain]
  exact hl j u hj
set_option maxHeartbeats 8000000 in
theorem row_any {C : Cfg} {p : Nat} {dp : Int} {E P : Par} (V : Env C p dp E P) (hC : C.climb = climbL Lx.rightF) (hfs : C.fs.length ≤ 1000000) (hsm : Lx.Small C.fs) (s : St) (w0 : World) (h : PS C p dp s w0) :
    Calls Tryz.prog 38 #[.pointer (some ⟨p, 0, none⟩)] w0 (NP C p dp (rowM C E P s) w0) := by
  have P0 := Lib.hid h
  have HV := Lib.hid V
  have hpl := h.lt
  have HHE := Lib.hid (here_any C p dp s w0 h)
  have K := app_any V s w0 h
  have hz := app_sz V.zE V.zP (C := C) s h.lim.2
  have hrz := (row_sz V.rowed V.zE V.zP s h.lim.2).1
  have hl7 := h.lim.1
  rw [rowM_eq, rowT_eq] at hrz ⊢
  generalize appM C E P s = A0 at K hz hrz ⊢
  obtain ⟨a0, s1⟩ := A0
  simp only at K hz hrz ⊢
  have hoz := opsL_sz V.zE V.zP (C := C) 1000 s1 hz.2.2
  obtain ⟨RR, hRR⟩ : ∃ RR, RR = opsL C E P 1000 s1 := ⟨_, rfl⟩
  rw [← hRR] at hrz hoz ⊢
  obtain ⟨⟨LO, LZ⟩, S2⟩ := RR
  simp only at hrz hoz ⊢
  obtain ⟨x0, hx0⟩ : ∃ x, x = here C s := ⟨_, rfl⟩
  rw [← hx0] at hrz HHE ⊢
  have K := Lib.hid K
  have HRR := Lib.hid hRR
  have HZ := Lib.hid hz
  have HRZ := Lib.hid hrz
  have HOZ := Lib.hid hoz
  have HC := Lib.hid hC
  have HFS := Lib.hid hfs
  have HSM := Lib.hid hsm
  have hs17 : s1.rest.length ≤ 700 := by have := hz.1; omega
  clear h V hC hfs hsm hz hrz hoz hRR hx0
  go_enter Tryz.func38, Tryz.ntmps38
  go_wp2_with fail
  refine HHE.out.mono ?_
  rintro e w9 ⟨rfl, hw9⟩
  subst hw9
  go_wp2_with fail
  refine K.out.mono ?_
  rintro e w1 ⟨v1, rfl, hv1, hfr1, hP1, hB1⟩
  obtain ⟨q1, n1, c1, rfl⟩ : ∃ q n c, v1 = .slice q n c := by obtain ⟨_, q, c, e, _⟩ := hv1; exact ⟨q, _, c, e⟩
  have P1 := Lib.hid (hP1.below (lit_below w1 (.cells #[.slice q1 n1 c1] 25)))
  have B1 := Lib.hid (hB1.step (lit_below w1 (.cells #[.slice q1 n1 c1] 25)))
  have ROW1 := Lib.hid (LRow.lit hv1 hfr1 hB1.size).plain
  clear hv1 hfr1 hP1 hB1
  go_wp2_with fail
  obtain ⟨i0, hi, hz0, hz1, hz2⟩ := Lx.infoTok
  have HI := Lib.hid (And.intro hi (And.intro hz0 (And.intro hz1 hz2)))
  clear hi hz0 hz1 hz2
  go_loopw [4, 5] (fun s4 s5 wr => ∃ (k : Nat) (ops : List Tok) (zs : List (List Nd)) (s' : St) (v4 v5 : Value), s4 = v4 ∧ s5 = v5 ∧ LRowO v5.ownBlock w9.heap.size wr v4 zs ∧ OpRow w9.heap.size wr v5 ops ∧ PS C p dp s' wr ∧ Bar p w9 wr ∧ LO = ops ++ (opsL C E P k s').1.1 ∧ a0 :: LZ = zs ++ (opsL C E P k s').1.2 ∧ S2 = (opsL C E P k s').2 ∧ s'.rest.length ≤ k ∧ zs.length = ops.length + 1 ∧ ops.length + s'.rest.length ≤ 700) (fun _ _ wr => left p wr)
  case atStart => exact ⟨1000, [], [a0], s1, _, _, rfl, rfl, ROW1.out, OpRow.nil _ _, P1.out, B1.out, by rw [← HRR.out]; rfl, by rw [← HRR.out]; rfl, by rw [← HRR.out], by omega, rfl, by simpa using hs17⟩
  case round =>
    obtain ⟨wo, hwo⟩ : ∃ wo : World, wo = wr := ⟨_, rfl⟩
    subst hwo
    obtain ⟨k, ops, zs, s', v4, v5, rfl, rfl, hrow, hop, hPo, hBo, hlo, hlz, hs2, hkk, hzl, hol⟩ := hrel
    obtain ⟨q4, c4, rfl⟩ := hrow.form
    obtain ⟨q5, c5, rfl⟩ := hop.form
    generalize hon : ops.length = on at *
    generalize hzn : zs.length = zn at *
    obtain rfl : zn = on + 1 := hzl
    have ROW0 := Lib.hid hrow
    have OP0 := Lib.hid hop
    have P0 := Lib.hid hPo
    have B0 := Lib.hid hBo
    have LO1 := Lib.hid hlo
    have LZ1 := Lib.hid hlz
    have LS1 := Lib.hid hs2
    have hLEFT := Lib.hid hPo.left
    have HON := Lib.hid hon
    have HZN := Lib.hid hzn
    clear hrow hop hPo hBo hlo hlz hs2 hon hzn
    go_wp2_with fail
    refine (kindL p [5] 1 #[.int .i64 5] _ P0.out.lt rfl rfl (by decide)).mono ?_
    rintro e w3 ⟨v3, rfl, hT, hb⟩
    obtain ⟨g3, cap3, rfl⟩ := hT.form
    have T3 := Lib.hid hT
    have P3 := Lib.hid (P0.out.below hb)
    have B3 := Lib.hid (B0.out.step hb)
    have ROW3 := Lib.hid (ROW0.out.below hb)
    have OP3 := Lib.hid (OP0.out.below hb)
    clear hT hb
    go_wp2_with fail
    refine (sees1_any P3.out T3.out).mono ?_
    rintro e w4 ⟨rfl, hb⟩
    have P4 := Lib.hid (P3.out.below hb)
    have B4 := Lib.hid (B3.out.step hb)
    have ROW4 := Lib.hid (ROW3.out.below hb)
    have OP4 := Lib.hid (OP3.out.below hb)
    clear hb
    cases hv : sees [isKind [5]] s'.rest with
    | true =>
      obtain ⟨tk, rs, hrs⟩ := head_of hv
      obtain ⟨k2, rfl⟩ : ∃ k2, k = k2 + 1 := ⟨k - 1, by rw [hrs] at hkk; simp at hkk; omega⟩
      have hy := opsL_yes (C := C) (E := E) (P := P) (k := k2) hv
      have lo1 := LO1.out
      have lz1 := LZ1.out
      have ls1 := LS1.out
      rw [hy] at lo1 lz1 ls1
      have htz := take_sz (C := C) (isKind [5]) P4.out.lim.2
      have htl := htz.2.2.2 hv
      obtain ⟨s3, hs3⟩ : ∃ x, x = (take C (isKind [5]) s').2 := ⟨_, rfl⟩
      obtain ⟨t3, ht3⟩ : ∃ x, x = (take C (isKind [5]) s').1 := ⟨_, rfl⟩
      rw [← hs3] at htz htl lo1 lz1 ls1
      rw [← ht3] at lo1
      have haz := app_sz HV.out.zE HV.out.zP (C := C) s3 htz.2.2.1
      have KA : Hid (∀ W, PS C p dp s3 W → Calls Tryz.prog 67 #[.pointer (some ⟨p, 0, none⟩)] W (NP C p dp (appM C E P s3) W)) := Lib.hid fun W hW => app_any HV.out s3 W hW
      generalize appM C E P s3 = A1 at haz lo1 lz1 ls1 KA
      obtain ⟨a1, s4⟩ := A1
      simp only at haz lo1 lz1 ls1 KA
      have hdl : s4.rest.length + 1 ≤ s'.rest.length := by omega
      have LO2 := Lib.hid lo1
      have LZ2 := Lib.hid lz1
      have LS2 := Lib.hid ls1
      have HT3 := Lib.hid ht3
      have HS3 := Lib.hid hs3
      clear hy lo1 lz1 ls1 htz htl haz hrs ht3 hs3 hv LO1 LZ1 LS1
      go_wp2_with fail
      refine (kindL p [5] 1 #[.int .i64 5] _ P4.out.lt rfl rfl (by decide)).mono ?_
      rintro e w5 ⟨v5, rfl, hT, hb⟩
      obtain ⟨g5, cap5, rfl⟩ := hT.form
      have T5 := Lib.hid hT
      have P5 := Lib.hid (P4.out.below hb)
      have B5 := Lib.hid (B4.out.step hb)
      have ROW5 := Lib.hid (ROW4.out.below hb)
      have OP5 := Lib.hid (OP4.out.below hb)
      clear hT hb
      go_wp2_with fail
      refine (takes_any C p dp _ _ (isKind [5]) _ P5.out T5.out).mono ?_
      rintro e w6 ⟨t, ht, rfl, hP, hB⟩
      rw [← HT3.out] at ht
      subst ht
      rw [← HS3.out] at hP
      have P6 := Lib.hid (hP.below (lit_below w6 (.cells #[.int .i64 t.kind, .string t.text, .int .i64 t.num, .int .i64 t.at_] 45)))
      have B6 := Lib.hid ((B5.out.trans hB).step (lit_below w6 (.cells #[.int .i64 t.kind, .string t.text, .int .i64 t.num, .int .i64 t.at_] 45)))
      have ROW6 := Lib.hid ((ROW5.out.bar hpl P5.out.noStr hB).below (lit_below w6 (.cells #[.int .i64 t.kind, .string t.text, .int .i64 t.num, .int .i64 t.at_] 45)))
      have op6 := (OP5.out.bar hpl hB).below (lit_below w6 (.cells #[.int .i64 t.kind, .string t.text, .int .i64 t.num, .int .i64 t.at_] 45))
      unfold OpRow at op6
      rw [HON.out] at op6
      have OP6 := Lib.hid op6
      have hmax : on + 1 ≤ maxLen := by unfold maxLen; omega
      have hbyt : (on + 1) * 40 ≤ 140737488355328 := by omega
      have HMX := Lib.hid (And.intro hmax hbyt)
      clear hP hB op6 hmax hbyt
      go_wp2_with ((at_builtin; refine wpList_append_any _ rfl _ _ 46 rfl w9.heap.size 45 i0 Lx.zeroTok 4 40 Tryz.underlying46 HI.out.1 HI.out.2.1 HI.out.2.2.1 HI.out.2.2.2 rfl (by decide) (.slice q5 on c5) on (Lx.tokCells ops) rfl OP6.out (some ⟨w6.heap.size, 0, none⟩) 1 1 (Lx.tokCells [t]) rfl rfl (fun _ => ⟨_, rfl, tok_lit w6 t⟩) (Lx.tokCells_one _) HMX.out.1 HMX.out.2 B6.out.size ?_; intro p7 cap7 w7 hown hgrow hblk; have hbel := (Below.refl _ _).grown hgrow B6.out.size fun g hg => (World.ownsRow.there OP6.out hg).1; have OP7 := Lib.hid hown; have ROW7 := Lib.hid (LRowO.grow ROW6.out OP6.out (by decide) hgrow hblk); have P7 := Lib.hid (P6.out.behind (hbel.mono hpl)); have B7 := Lib.hid (show Bar p w9 w7 from ⟨hbel.os.trans B6.out.os, hbel.tape.trans B6.out.tape, hbel.output.trans B6.out.output, Nat.le_trans B6.out.size hbel.size, fun k hk hp => (hbel.block k hk).trans (B6.out.block k hk hp)⟩); clear hown hgrow hblk hbel))
      refine (KA.out w7 P7.out).mono ?_
      rintro e w8 ⟨v8, rfl, hv8, hfr8, hP8, hB8⟩
      obtain ⟨q8, n8, c8, rfl⟩ : ∃ q n c, v8 = .slice q n c := by obtain ⟨_, q, c, e, _⟩ := hv8; exact ⟨q, _, c, e⟩
      have P8 := Lib.hid hP8
      have B8 := Lib.hid (B7.out.trans hB8)
      have V8 := Lib.hid (hv8.below (lit_below w8 (.cells #[.slice q8 n8 c8] 25)))
      have ROW8 := Lib.hid ((ROW7.out.bar hpl P7.out.noStr hB8).below (lit_below w8 (.cells #[.slice q8 n8 c8] 25)))
      have op7 : w7.ownsRow w9.heap.size 45 4 (.slice p7 (on + 1) cap7) (on + 1) (Lx.tokCells ops ++ Lx.tokCells [t]) := OP7.out
      have hlo2 : (ops ++ [t]).length = on + 1 := by rw [List.length_append, HON.out]; rfl
      have op7' : OpRow w9.heap.size w7 (.slice p7 (on + 1) cap7) (ops ++ [t]) := by
        unfold OpRow
        rw [hlo2, Lx.tokCells_append]
        exact op7
      have op8 := (op7'.bar hpl hB8).below (lit_below w8 (.cells #[.slice q8 n8 c8] 25))
      have hap := rows_apart ROW8.out.own op8 (by decide)
      have OP8 := Lib.hid op8
      have HAP := Lib.hid hap
      have OFF := Lib.hid (show ∀ g, (Value.slice q4 (on + 1) c4).ownBlock = some g → Off g (Value.slice q8 n8 c8) from fun g hg => by
        obtain ⟨vs, hh, _⟩ := ROW7.out
        exact fresh_off hfr8 (World.ownsRow.there hh hg).2)
      have OFO := Lib.hid (show ∀ g, (Value.slice p7 (on + 1) cap7).ownBlock = some g → Off g (Value.slice q8 n8 c8) from fun g hg => fresh_off hfr8 (World.ownsRow.there op7 hg).2)
      have FRS := Lib.hid (hfr8.mono B7.out.size)
      have HLO2 := Lib.hid hlo2
      clear hv8 hfr8 hP8 hB8 op7 op7' op8 hap hlo2
      go_wp2_with ((at_builtin; refine wpList_pushO rfl _ _ rfl w9.heap.size (.slice q4 (on + 1) c4) zs rfl (Value.slice p7 (on + 1) cap7).ownBlock ?B1 w8.heap.size rfl (.slice q8 n8 c8) a1 ?B2 ?B3 ?B4 ?B6 ?B7 (by rw [HZN.out]; omega) ?B5 ?_; (case B1 => exact ROW8.out); (case B2 => simp); (case B3 => exact V8.out); (case B4 => exact fun _ => OFF.out); (case B6 => exact FRS.out); (case B7 => exact fun _ => OFO.out); (case B5 => exact Nat.le_trans B8.out.size (by simp)); intro p10 cap10 w10 hrow10 hbel10 hgr10; rw [HZN.out] at hrow10; have ROW10 := Lib.hid hrow10; have OP10 := Lib.hid (World.ownsRow.kept OP8.out hgr10 HAP.out); have P10 := Lib.hid ((P8.out.below (lit_below w8 _)).behind (hbel10.mono hpl)); have B10 := Lib.hid (show Bar p w9 w10 from ⟨hbel10.os.trans B8.out.os, hbel10.tape.trans B8.out.tape, hbel10.output.trans B8.out.output, Nat.le_trans B8.out.size (Nat.le_trans (by simp) hbel10.size), fun k hk hp => (hbel10.block k hk).trans (((lit_below w8 _).block k (Nat.lt_of_lt_of_le hk B8.out.size)).trans (B8.out.block k hk hp))⟩); clear hrow10 hbel10 hgr10))
      go_roundw
      case rel => exact ⟨k2, ops ++ [t], zs ++ [a1], s4, _, _, rfl, rfl, by rw [HZN.out]; exact ROW10.out, OP10.out, P10.out, B10.out, by rw [LO2.out]; simp, by rw [LZ2.out]; simp, LS2.out, by omega, by rw [List.length_append, List.length_append, HZN.out, HON.out]; rfl, by rw [HLO2.out]; omega⟩
      case measure => rw [P10.out.left, hLEFT.out]; omega
    | false =>
      have hy := opsL_no (C := C) (E := E) (P := P) (k := k) hv
      have lo1 := LO1.out
      have lz1 := LZ1.out
      have ls1 := LS1.out
      rw [hy] at lo1 lz1 ls1
      simp only [List.append_nil] at lo1 lz1 ls1
      subst lo1
      subst ls1
      have LZ2 := Lib.hid lz1
      clear hy lz1 hv LO1 LZ1 LS1
      by_cases h0 : on = 0
      · subst h0
        have e0 : LO = [] := List.eq_nil_of_length_eq_zero HON.out
        obtain ⟨b6, u6, rfl, hu6, hn6, hf6⟩ := ROW4.out.row.get 0 (by rw [HZN.out]; omega)
        obtain ⟨q8, n8, c8, rfl⟩ : ∃ q n c, u6 = .slice q n c := by obtain ⟨_, q, c, e, _⟩ := hn6; exact ⟨q, _, c, e⟩
        have A1 := Lib.hid hn6
        have A2 := Lib.hid hf6
        have E0 := Lib.hid e0
        clear hn6 hf6 e0
        go_wp2_with fail
        go_ret
        unfold rowU
        rw [if_pos E0.out]
        refine ⟨_, rfl, ?_, A2.out, P4.out, B4.out⟩
        have h9 := A1.out
        rw [← LZ2.out] at h9
        exact h9
      · have hz0 : ((on : Int) == 0) = false := by rw [beq_eq_false_iff_ne]; omega
        have ST := structure_any HC.out HFS.out HSM.out x0 LO q5 on c5 S2 w4 P4.out OP4.out.toks HON.out (by omega)
        have hmem := struct_mem HV.out.rowed x0 LO S2
        have htot := HRZ.out
        have hne : ¬ LO = [] := fun e => h0 (by rw [← HON.out, e]; rfl)
        have hU : rowU C x0 a0 (LO, LZ) S2 = ((structM C x0 LO S2).1.flatMap (opN LO zs), (structM C x0 LO S2).2) := by
          unfold rowU
          simp only
          rw [if_neg hne, LZ2.out]
        rw [hU] at htot
        generalize structM C x0 LO S2 = KS at ST hmem htot hU
        obtain ⟨ks, s5⟩ := KS
        simp only at ST hmem htot hU
        have htot2 : (ks.flatMap (opN LO zs)).length ≤ 3600 := by have := P0.out.lim.1; omega
        obtain ⟨F, hF⟩ : ∃ F, F = opN LO zs := ⟨_, rfl⟩
        rw [← hF] at htot2 hU
        have HU := Lib.hid hU
        have HF := Lib.hid hF
        have ST := Lib.hid ST
        have HME := Lib.hid hmem
        have HTO := Lib.hid htot2
        obtain ⟨j0, hj0, jz0, jz1, jz2⟩ := infoNode
        have HJ := Lib.hid (And.intro hj0 (And.intro jz0 (And.intro jz1 jz2)))
        clear hj0 jz0 jz1 jz2 hmem htot htot2 hne hF hU
        go_wp2_with fail
        refine (show Calls _ _ _ _ _ from ST.out).mono ?_
        rintro e w5 ⟨v5, rfl, hv5, hP5, hB5⟩
        obtain ⟨q6, c6, rfl⟩ : ∃ q c, v5 = .slice q ks.length c := by obtain ⟨_, q, c, e, _⟩ := hv5; exact ⟨q, c, e⟩
        generalize hkn : ks.length = m at *
        have V5 := Lib.hid hv5
        have P5 := Lib.hid hP5
        have B5 := Lib.hid (B4.out.trans hB5)
        have ROW5 := Lib.hid (ROW4.out.bar hpl P4.out.noStr hB5)
        have OP5 := Lib.hid (OP4.out.bar hpl hB5)
        have HKN := Lib.hid hkn
        clear hv5 hP5 hB5 hkn
        go_wp2_with fail
        go_loopw [6, 43] (fun s6 s43 wr => ∃ (j n6 : Nat) (q7 : Option Addr) (c7 : Nat), j ≤ m ∧ s43 = .int .i64 j ∧ s6 = .slice q7 n6 c7 ∧ ((ks.take j).flatMap F).length = n6 ∧ wr.ownsRow w5.heap.size 37 4 (.slice q7 n6 c7) n6 (nodeCells ((ks.take j).flatMap F)) ∧ Below w5.heap.size w5 wr) (fun _ s43 _ => m - (RowKit.intOf s43).toNat)
        case atStart => exact ⟨0, 0, none, 0, Nat.zero_le _, rfl, rfl, rfl, World.ownsRow_nil _ _ _ _, Below.refl _ _⟩
        case round =>
          obtain ⟨wz, hwz⟩ : ∃ wz : World, wz = wr := ⟨_, rfl⟩
          subst hwz
          obtain ⟨j, n6, q7, c7, hj, rfl, rfl, hn6, hrow, hbel⟩ := hrel
          have HN6 := Lib.hid hn6
          have R0 := Lib.hid hrow
          have BL := Lib.hid hbel
          have hn6b : n6 ≤ 3600 := by have := take_fl F ks j; have := HTO.out; omega
          clear hn6 hrow
          by_cases hlt : j < m
          · obtain ⟨_, q', c', e, hc6, hc7, h4⟩ := V5.out
            obtain ⟨b5, off5, rfl, hb5, hcc⟩ := h4 (by rw [HKN.out]; omega)
            simp only [Value.slice.injEq] at e
            obtain ⟨rfl, -, rfl⟩ := e
            have hcap : m ≤ maxLen := by rw [← HKN.out]; omega
            have hki := Lx.CellsIn.int (hcc.kept (hbel.block b5 hb5)) j (by rw [HKN.out]; exact hlt)
            have hfm := take_fm F ks 0 j (by rw [HKN.out]; exact hlt)
            have hfl : ((ks.take (j + 1)).flatMap F).length ≤ 3600 := Nat.le_trans (take_fl F ks (j + 1)) HTO.out
            have hin := HME.out (ks.getD j 0) (by rw [List.getD_eq_getElem?_getD, List.getElem?_eq_getElem (by rw [HKN.out]; exact hlt)]; simp)
            rw [hfm, List.length_append, HN6.out] at hfl
            generalize ks.getD j 0 = kv at hki hfm hfl hin
            have HFM := Lib.hid hfm
            have hmm : m ≤ 9223372036854775807 := by have := hcap; unfold maxLen at this; omega
            clear hcc h4 hfm hcap hc6 hc7
            by_cases hneg : kv < 0
            · obtain ⟨i, hi⟩ : ∃ i : Nat, (i : Int) = -1 - kv := ⟨(-1 - kv).toNat, by omega⟩
              have hib : i < on + 1 := by rcases hin with h | h <;> (rw [HON.out] at h; omega)
              have hfv : F kv = zs.getD i [] := by
                rw [HF.out]
                unfold opN
                rw [if_pos hneg, ← hi]
                rfl
              rw [hfv] at hfl
              have HFV := Lib.hid hfv
              have hsub : IntKind.i64.wrap (-1 - kv) = (i : Int) := by rw [← hi]; exact IntWalk.i64_in _ (by omega)
              obtain ⟨b6, u6, rfl, hu6, hn6, hf6⟩ := (ROW5.out.row.below BL.out).get i (by rw [HZN.out]; exact hib)
              obtain ⟨_, q8, c8, rfl, _, _, h48⟩ := hn6
              have SRC := Lib.hid (show (zs.getD i []).length ≠ 0 → ∃ ad, q8 = some ad ∧ ∀ j u, (nodeCells (zs.getD i []))[j]? = some u → wz.cell? (ad.add j) = some u from fun h0 => by
                obtain ⟨bb, oo, rfl, _, hcc⟩ := h48 h0
                exact ⟨_, rfl, hcc.at⟩)
              have LEN := Lib.hid (length_nodeCells (zs.getD i []))
              have hI : (i : Int) < ((on + 1 : Nat) : Int) := by omega
              have hjz : (j : Int) < (m : Int) := by omega
              have HLT := Lib.hid hlt
              have HFL := Lib.hid hfl
              have HMX := Lib.hid (show n6 + (zs.getD i []).length ≤ maxLen ∧ (n6 + (zs.getD i []).length) * 40 ≤ 140737488355328 from ⟨by unfold maxLen; omega, by omega⟩)
              generalize hzi : zs.getD i [] = Z at *
              generalize hzl : Z.length = zl at *
              have HZL := Lib.hid hzl
              clear hzl h48 hf6 hin hfl hi hib hfv hbel hzi hlt
              go_wp2_with ((at_builtin; refine wpList_append_any _ rfl _ _ 25 rfl w5.heap.size 37 j0 zeroNode 4 40 Tryz.underlying25 HJ.out.1 HJ.out.2.1 HJ.out.2.2.1 HJ.out.2.2.2 rfl (by decide) (.slice q7 n6 c7) n6 (nodeCells ((ks.take j).flatMap F)) rfl R0.out q8 zl c8 (nodeCells Z) rfl LEN.out SRC.out (nodeCells_one _) HMX.out.1 HMX.out.2 BL.out.size ?_; intro p9 cap9 w6 hown hgrow hblk; have RN := Lib.hid hown; have BN := Lib.hid (show Below w5.heap.size w5 w6 from BL.out.grown hgrow BL.out.size fun g hg => (World.ownsRow.there R0.out hg).1); clear hown hgrow hblk))
              go_roundw
              case rel => exact ⟨j + 1, n6 + zl, p9, cap9, by have := HLT.out; omega, by go_num, rfl, by rw [HFM.out, List.length_append, HN6.out, HFV.out, HZL.out], by rw [HFM.out, HFV.out, nodeCells_append]; exact RN.out, BN.out⟩
              case measure => have := HLT.out; simp [RowKit.intOf]; omega
            · obtain ⟨i, rfl⟩ : ∃ i : Nat, kv = (i : Int) := ⟨kv.toNat, by omega⟩
              have hib : i < on := by rcases hin with h | h <;> (rw [HON.out] at h; omega)
              have hfv : F (i : Int) = [nApp, nApp, ⟨3, (LO.getD i tok0).text, 0, 0⟩] := by
                rw [HF.out]
                unfold opN
                rw [if_neg hneg]
                simp
              rw [hfv] at hfl
              have HFV := Lib.hid hfv
              obtain ⟨_, q', c', e, _, _, h4⟩ := (OP5.out.below BL.out).toks
              obtain ⟨b6, off6, rfl, hb6, hcc⟩ := h4 (by rw [HON.out]; omega)
              simp only [Value.slice.injEq] at e
              obtain ⟨rfl, -, rfl⟩ := e
              have hk := Lx.CellsIn.tok (w := wz) (b := b6) (off := off6) hcc i (by rw [HON.out]; exact hib)
              have e1 : LO.getD i default = LO.getD i tok0 := by
                rw [List.getD_eq_getElem?_getD, List.getD_eq_getElem?_getD, List.getElem?_eq_getElem (by rw [HON.out]; exact hib)]; rfl
              rw [e1] at hk
              obtain ⟨-, g1, -, -⟩ := hk
              generalize (LO.getD i tok0).text = tx at g1 hfl HFV
              have hI : (i : Int) < (on : Int) := by omega
              have hjz : (j : Int) < (m : Int) := by omega
              have HLT := Lib.hid hlt
              have BA : Hid (Below wz.heap.size wz (wz.alloc (.cells #[.int .i64 6, .string ⟨#[]⟩, .int .i64 0, .int .i64 2] 37))) := Lib.hid ((Below.refl _ _).alloc (Nat.le_refl _) _)
              have g1a := (BA.out.cell (p := ⟨b6, off6 + i * 4 + 1, none⟩) hb6).trans g1
              clear h4 hcc hin hib hfv e1 hbel hlt g1
              obtain ⟨w6, hw6⟩ : ∃ w6, w6 = wz.alloc (.cells #[.int .i64 6, .string ⟨#[]⟩, .int .i64 0, .int .i64 2] 37) := ⟨_, rfl⟩
              have hl := lit_cells wz #[.int .i64 6, .string ⟨#[]⟩, .int .i64 0, .int .i64 2] 37
              rw [← hw6] at g1a BA hl
              have k0 := hl 0 _ rfl
              have k1 := hl 1 _ rfl
              have k2 := hl 2 _ rfl
              have k3 := hl 3 _ rfl
              simp only [Nat.zero_add] at k0 k1 k2 k3
              have hlt6 : wz.heap.size < w6.heap.size := by rw [hw6]; simp
              have hb66 : b6 < w6.heap.size := Nat.lt_of_lt_of_le hb6 BA.out.size
              have SS : Hid (∀ W, Below w6.heap.size w6 W → W.cell? ⟨wz.heap.size, 0, none⟩ = some (.int .i64 6) ∧ W.cell? ⟨wz.heap.size, 1, none⟩ = some (.string ⟨#[]⟩) ∧ W.cell? ⟨wz.heap.size, 2, none⟩ = some (.int .i64 0) ∧ W.cell? ⟨wz.heap.size, 3, none⟩ = some (.int .i64 2) ∧ W.cell? ⟨b6, off6 + i * 4 + 1, none⟩ = some (.string tx)) := Lib.hid fun W hW => ⟨(hW.cell (p := ⟨wz.heap.size, 0, none⟩) hlt6).trans k0, (hW.cell (p := ⟨wz.heap.size, 1, none⟩) hlt6).trans k1, (hW.cell (p := ⟨wz.heap.size, 2, none⟩) hlt6).trans k2, (hW.cell (p := ⟨wz.heap.size, 3, none⟩) hlt6).trans k3, (hW.cell (p := ⟨b6, off6 + i * 4 + 1, none⟩) hb66).trans g1a⟩
              have APH : Hid (∀ W, Below w6.heap.size w6 W → W.ownsRow w5.heap.size 37 4 (.slice q7 n6 c7) n6 (nodeCells ((ks.take j).flatMap F))) := Lib.hid fun W hW => World.ownsRow.keep R0.out fun g hg => by
                have := (World.ownsRow.there R0.out hg).2
                exact (hW.block g (Nat.lt_of_lt_of_le this BA.out.size)).trans (BA.out.block g this)
              have HW6 := Lib.hid hw6
              have B6 := Lib.hid (BL.out.trans (BA.out.mono BL.out.size))
              have HMX := Lib.hid (show n6 + 3 ≤ maxLen ∧ (n6 + 3) * 40 ≤ 140737488355328 ∧ w5.heap.size ≤ w6.heap.size from ⟨by unfold maxLen; omega, by omega, B6.out.size⟩)
              have HLC := Lib.hid (fun W => lit_cells W #[.int .i64 6, .string ⟨#[]⟩, .int .i64 0, .int .i64 2, .int .i64 6, .string ⟨#[]⟩, .int .i64 0, .int .i64 2, .int .i64 3, .string tx, .int .i64 0, .int .i64 0] 37)
              have OFB := Lib.hid (show (∀ g, (Value.slice q7 n6 c7).ownBlock = some g → g < wz.heap.size ∧ w5.heap.size ≤ g) from fun g hg => ⟨(World.ownsRow.there R0.out hg).2, (World.ownsRow.there R0.out hg).1⟩)
              have NE1 := Lib.hid (show some wz.heap.size ≠ (Value.slice q7 n6 c7).ownBlock from fun e => by have := (OFB.out _ e.symm).1; omega)
              have NE2 := Lib.hid (show some b6 ≠ (Value.slice q7 n6 c7).ownBlock from (rows_apart R0.out (OP5.out.below BL.out) (by decide)).resolve_left (by simp [Value.ownBlock]))
              have GG : Hid (∀ W w7, Below w6.heap.size w6 W → W.grownBy w7 (Value.slice q7 n6 c7).ownBlock → (w7.cell? ⟨wz.heap.size, 0, none⟩ = some (.int .i64 6) ∧ w7.cell? ⟨wz.heap.size, 1, none⟩ = some (.string ⟨#[]⟩) ∧ w7.cell? ⟨wz.heap.size, 2, none⟩ = some (.int .i64 0) ∧ w7.cell? ⟨wz.heap.size, 3, none⟩ = some (.int .i64 2) ∧ w7.cell? ⟨b6, off6 + i * 4 + 1, none⟩ = some (.string tx)) ∧ Below w5.heap.size w5 w7) := Lib.hid fun W w7 hW hg =>
                have hS := SS.out W hW
                ⟨⟨hg.cell hS.1 NE1.out, hg.cell hS.2.1 NE1.out, hg.cell hS.2.2.1 NE1.out, hg.cell hS.2.2.2.1 NE1.out, hg.cell hS.2.2.2.2 NE2.out⟩, (B6.out.trans (hW.mono B6.out.size)).grown hg (Nat.le_trans B6.out.size hW.size) fun g hgg => (OFB.out g hgg).2⟩
              clear hw6 hl g1a hlt6 hb66
              go_wp2_with fail
              rw [← HW6.out]
              go_region_held3 (fun W => W.cell? ⟨wz.heap.size, 0, none⟩ = some (.int .i64 6) ∧ W.cell? ⟨wz.heap.size, 1, none⟩ = some (.string ⟨#[]⟩) ∧ W.cell? ⟨wz.heap.size, 2, none⟩ = some (.int .i64 0) ∧ W.cell? ⟨wz.heap.size, 3, none⟩ = some (.int .i64 2) ∧ W.cell? ⟨b6, off6 + i * 4 + 1, none⟩ = some (.string tx)) (first | exact hS7 | exact SS.out _ (by repeat' (first | assumption | exact Below.refl _ _ | apply Below.drew | (refine Below.alloc ?_ ?_ _) | (exact Below.size (by assumption)) | simp))) ((first
                | (refine step_append_any (by rfl) _ _ 25 (by rfl) w5.heap.size 37 j0 zeroNode 4 40 Tryz.underlying25 HJ.out.1 HJ.out.2.1 HJ.out.2.2.1 HJ.out.2.2.2 rfl (by decide) (.slice q7 n6 c7) n6 (nodeCells ((ks.take j).flatMap F)) rfl (APH.out _ (by repeat' (first | exact Below.refl _ _ | apply Below.drew | (refine Below.alloc ?_ ?_ _) | exact Nat.le_refl _ | (simp; done)))) (some ⟨w6.heap.size, 0, none⟩) 3 3 (nodeCells [nApp, nApp, ⟨3, tx, 0, 0⟩]) rfl rfl (fun _ => ⟨_, rfl, by first | exact CellsIn.at (HLC.out w6) | exact CellsIn.at (HLC.out w6.drew)⟩) (nodeCells_one _) HMX.out.1 HMX.out.2.1 (by have := HMX.out.2.2; simp; omega) ?_; intro p9 cap9 w7 hown hgrow hblk; have hG := GG.out _ _ (by repeat' (first | exact Below.refl _ _ | apply Below.drew | (refine Below.alloc ?_ ?_ _) | exact Nat.le_refl _ | (simp; done))) hgrow; have hS7 := hG.1; have RN := Lib.hid hown; have BN := Lib.hid hG.2; clear hown hgrow hblk hG)
                | fail))
              all_goals
                go_wp2_with fail
                go_roundw
                case rel => exact ⟨j + 1, n6 + 3, p9, cap9, by have := HLT.out; omega, by go_num, rfl, by rw [HFM.out, List.length_append, HN6.out, HFV.out]; rfl, by rw [HFM.out, HFV.out, nodeCells_append]; exact RN.out, BN.out⟩
                case measure => have := HLT.out; simp [RowKit.intOf]; omega
          · obtain rfl : j = m := by omega
            have et : ks.take j = ks := List.take_of_length_le (by rw [HKN.out]; omega)
            have ET := Lib.hid et
            clear et hbel
            go_wp2_with fail
            go_ret
            rw [HU.out]
            have h9 := R0.out
            have hn := HN6.out
            rw [ET.out] at h9 hn
            have nr : NRow w5.heap.size wz (.slice q7 n6 c7) (ks.flatMap F) := by unfold NRow; rw [hn]; exact h9
            exact ⟨_, rfl, nr.at, nr.fresh.mono B5.out.size, P5.out.below BL.out, B5.out.step BL.out⟩
end Go.Proofs.YtggjckalmlploaaGreatDoor
