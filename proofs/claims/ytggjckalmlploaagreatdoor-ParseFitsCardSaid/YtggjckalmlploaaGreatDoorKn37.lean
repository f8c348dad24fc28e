/- Texts of this seat, one behind the other: ParU. -/
import Derived.Test.YtggjckalmlploaaGreatDoorKn36
import Derived.Deep.RegionHeld3
/- The parser: pats. -/
set_option maxRecDepth 100000
namespace Go.Proofs.YtggjckalmlploaaGreatDoor
open Go.Shelf Go.RowKit Go.Lib Go.Proofs.TreeMath Go.Proofs.LexMath Go.Proofs.FixMath Go.Proofs.ParMath
attribute [local go_sem] field_text field_num
theorem zn_bar {p : Nat} {W w' : World} (b : Bar p W w') (X : Nat) (hX : X ≠ p) (h : W.heap[X]? = some (.cells #[.int .i64 0, .string ⟨#[]⟩, .int .i64 0, .int .i64 0] 37 (0, 0))) :
    w'.heap[X]? = some (.cells zn 37 (0, 0)) ∧ w'.cell? ⟨X, 0, none⟩ = some (.int .i64 0) ∧ w'.cell? ⟨X, 1, none⟩ = some (.string ⟨#[]⟩) ∧ w'.cell? ⟨X, 2, none⟩ = some (.int .i64 0) ∧ w'.cell? ⟨X, 3, none⟩ = some (.int .i64 0) ∧ w'.frozen? ⟨X, 0, none⟩ = false ∧ w'.frozen? ⟨X, 1, none⟩ = false ∧ w'.frozen? ⟨X, 2, none⟩ = false ∧ w'.frozen? ⟨X, 3, none⟩ = false := by
  have k := (b.block X (Array.getElem?_eq_some_iff.1 h).1 hX).trans h
  exact ⟨k, zn_all k⟩
theorem NodeAt.of_new {C : Cfg} {p : Nat} {dp : Int} {s : St} {k : Int} {t : ByteArray} {W : World} {w : World} (hp : p < W.heap.size) (hP : PS C p dp s w) (hB : Bar p W w) :
    NodeAt C p dp s k t W w.heap.size (w.alloc (.cells #[.int .i64 k, .string t, .int .i64 0, .int .i64 0] 37)) :=
  ⟨hB.size, by have := hB.size; omega, new_blk w _, hP.below (lit_below w _), hB.alloc _⟩
theorem below_nx {W a b : World} (h : Below W.heap.size W a) (k : Below a.heap.size a b) : Below W.heap.size W b := h.trans (k.mono h.size)
theorem beginP_any {p : Nat} {w : World} (hp : p < w.heap.size) {v1 v2 v3 : Value} (h1 : IsTest p w v1 (isKind [3, 2, 1])) (h2 : IsTest p w v2 (isKey wAny)) (h3 : IsTest p w v3 (isKey wLp)) :
    Calls Tryz.prog 91 #[.slice (some ⟨w.heap.size, 0, none⟩) 3 3] (w.alloc (.cells #[v1, v2, v3] 73)) fun e w' => ∃ v, e = .returned v ∧ IsTest p w' v (either begP) ∧ Below w.heap.size w w' := by
  refine (either_any p begP w.heap.size 0 3 3 _ (by simp; omega) rfl (by omega) (by simp) (by omega) (fun j hj => ?_)).mono ?_
  · have hl := lit_cells w #[v1, v2, v3] 73
    rcases j with _ | _ | _ | j
    · exact ⟨v1, hl 0 v1 rfl, h1.below (lit_below w _)⟩
    · exact ⟨v2, hl 1 v2 rfl, h2.below (lit_below w _)⟩
    · exact ⟨v3, hl 2 v3 rfl, h3.below (lit_below w _)⟩
    · exact absurd hj (by simp [begP])
  · rintro e w' ⟨v, rfl, h4, h5⟩
    exact ⟨v, rfl, h4, (lit_below w _).trans (h5.mono (by simp))⟩
theorem lit_two {w : World} {T : TypeId} : CellsIn (w.alloc (.cells #[.int .i64 2] T)) w.heap.size 0 (intCells [2]) := fun j u hj => by
  rcases j with _ | j
  · simp [intCells] at hj; subst hj; simp
  · simp [intCells] at hj
theorem lit_two2 {w : World} {T : TypeId} {o : Obj} : CellsIn ((w.alloc (.cells #[.int .i64 2] T)).alloc o) w.heap.size 0 (intCells [2]) := fun j u hj => by
  rcases j with _ | j
  · simp [intCells] at hj; subst hj; simp
  · simp [intCells] at hj
set_option maxHeartbeats 8000000 in
theorem pat1_any {C : Cfg} {p xb : Nat} {dp : Int} {E P : Par} (V : Env C p dp E P) (s : St) (w0 : World) (h : PS C p dp s w0) (hx : BoxQ p xb w0) :
    Calls Tryz.prog 119 #[.pointer (some ⟨xb, 0, none⟩)] w0 (NP C p dp (patB C E P s) w0) := by
  have P0 := Lib.hid h
  have B0 := Lib.hid (Bar.refl p w0)
  have X0 := Lib.hid hx
  have x0 := hx.2
  have xn0 := hx.new
  have xd0 := hx.newd
  have HV := Lib.hid V
  have hpl := h.lt
  clear h V hx
  obtain ⟨R, hR⟩ : ∃ R, R = patB C E P s := ⟨_, rfl⟩
  rw [← hR]
  have HR := Lib.hid hR
  clear hR
  go_enter Tryz.func119, Tryz.ntmps119
  go_upto_region 1 with fail
  go_cut [10] from 5 to 10 (fun s2 wx => s2 = .bool (!(sees [isKind [2]] s.rest)) ∧ PS C p dp s wx ∧ Below w0.heap.size w0 wx)
  case first =>
    go_region_with (first
      | (go_at_call 68; refine (kindD p [2] 1 #[.int .i64 2] w0 P0.out.lt rfl rfl (by decide)).mono ?_; (rintro e wa ⟨va, rfl, hT, hb⟩; obtain ⟨ga, capa, rfl⟩ := hT.form; have TA := Lib.hid hT; have BA : Hid (Below w0.heap.size w0 wa) := Lib.hid (by first | exact hb | exact (Below.refl _ _).drew.trans hb); have xa := (BA.out.cell (p := ⟨xb, 0, none⟩) X0.out.lt).trans x0; have xc := fun o => (World.cell?_alloc_old wa o ⟨xb, 0, none⟩ (Nat.ne_of_lt (World.block_lt_of_cell? _ _ xa))).trans xa; clear hT hb))
      | (go_at_call 35; refine (sees1_any (P0.out.below BA.out) TA.out).mono ?_; (rintro e wb ⟨rfl, hb⟩; have BB : Hid (Below w0.heap.size w0 wb) := Lib.hid (BA.out.trans (hb.mono BA.out.size)); clear hb)))
    all_goals
      go_wp2_with fail
      go_meet
      case rel => exact ⟨rfl, P0.out.below BB.out, BB.out⟩
  case rest =>
    obtain ⟨rfl, hP, hb⟩ := hcut
    obtain ⟨w1, hw⟩ : ∃ w1 : World, w1 = wc := ⟨_, rfl⟩
    subst hw
    have P1 := Lib.hid hP
    have B1 := Lib.hid (B0.out.step hb)
    have X1 := Lib.hid (X0.out.bar (.of_below (p := p) hb))
    have x1 := X1.out.2
    have xn1 := X1.out.new
    have xd1 := X1.out.newd
    clear hP hb
    cases hv : sees [isKind [2]] s.rest with
    | false =>
      have RM := Lib.hid (HR.out.trans (pat_c1 hv))
      have K := Lib.hid (patom_any HV.out s w1 P1.out)
      clear hv
      go_wp2_with fail
      refine K.out.mono ?_
      rintro e w9 ⟨v, rfl, hv, hfr, hP, hB⟩
      have A1 := Lib.hid hv
      have A2 := Lib.hid hfr
      have A3 := Lib.hid hP
      have A4 := Lib.hid hB
      clear hv hfr hP hB
      go_wp2_with fail
      go_ret
      rw [RM.out]
      exact ⟨_, rfl, A1.out, A2.out.mono B1.out.size, A3.out, B1.out.trans A4.out⟩
    | true =>
      have RM := Lib.hid (HR.out.trans (pat_c2 hv))
      clear hv
      go_upto_region 3 with fail
      have XL1 : Hid (xb < w1.heap.size) := Lib.hid X1.out.lt
      have HPN : Hid (p < w1.heap.size) := Lib.hid P1.out.lt
      have SS : Hid (∀ W, Bar p w1 W → Bar p w1 W ∧ W.cell? ⟨xb, 0, none⟩ = some (.pointer (some ⟨p, 0, none⟩))) := Lib.hid fun W hW => ⟨hW, (X1.out.bar hW).2⟩
      have K1 := Lib.hid (kindD p [2] 1 #[.int .i64 2] w1 P1.out.lt rfl rfl (by decide))
      have K2 := Lib.hid (kindB p [2] 1 #[.int .i64 2] (.cells #[.int .i64 0, .string ⟨#[]⟩, .int .i64 0, .int .i64 0] 37) w1 P1.out.lt rfl rfl (by decide))
      have K3 := Lib.hid (kindC p [2] 1 #[.int .i64 2] (.cells #[.int .i64 0, .string ⟨#[]⟩, .int .i64 0, .int .i64 0] 37) w1 P1.out.lt rfl rfl (by decide))
      have TT : Hid (∀ (wa W : World) (va : Value), Below w1.heap.size w1 wa → IsTest p wa va (isKind [2]) → Below wa.heap.size wa W → PS C p dp s W ∧ IsTest p W va (isKind [2])) := Lib.hid fun wa W va h1 h2 h3 => ⟨P1.out.below (h1.trans (h3.mono h1.size)), h2.below h3⟩
      clear xn1 xd1 xn0 xd0 x0
      go_cut [2] from 2 to 18 (fun s2 wx => ∃ X, s2 = .pointer (some ⟨X, 0, none⟩) ∧ NodeAt C p dp (take C (isKind [2]) s).2 24 (take C (isKind [2]) s).1.text w1 X wx)
      case first =>
        go_region_held3 (fun W => Bar p w1 W ∧ W.cell? ⟨xb, 0, none⟩ = some (.pointer (some ⟨p, 0, none⟩))) (exact SS.out _ (by repeat' (first | assumption | exact Bar.refl _ _ | apply Bar.drew | apply Bar.alloc | (refine Bar.setNew ?_ ?_ _ _) | exact Nat.le_refl _ | exact Bar.size (by assumption) | (simp; done)))) ((first
          | (go_at_call 68; (first
             | (with_reducible refine Calls.mono K1.out ?_; rintro e wa ⟨va, rfl, hT, hb⟩; obtain ⟨ga, capa, rfl⟩ := hT.form; have TA := Lib.hid hT; have BA : Hid (Below w1.heap.size w1 wa) := Lib.hid hb; have ba := Bar.of_below (p := p) hb; clear hT hb)
             | (with_reducible refine Calls.mono K2.out ?_; rintro e wa ⟨va, rfl, hT, hb, hz⟩; obtain ⟨ga, capa, rfl⟩ := hT.form; have TA := Lib.hid hT; have BA : Hid (Below w1.heap.size w1 wa) := Lib.hid hb; have ZA := Lib.hid hz; have ba := Bar.of_below (p := p) hb; clear hT hb hz)
             | (with_reducible refine Calls.mono K3.out ?_; rintro e wa ⟨va, rfl, hT, hb, hz⟩; obtain ⟨ga, capa, rfl⟩ := hT.form; have TA := Lib.hid hT; have BA : Hid (Below w1.heap.size w1 wa) := Lib.hid hb; have ZA := Lib.hid hz; have ba := Bar.of_below (p := p) hb; clear hT hb hz)))
          | (go_at_call 69; refine (takes_any C p dp s _ (isKind [2]) _ (TT.out wa _ _ BA.out TA.out (by repeat' (first | exact Below.refl _ _ | apply Below.drew | (refine Below.alloc ?_ ?_ _) | exact Nat.le_refl _ | (simp; done)))).1 (TT.out wa _ _ BA.out TA.out (by repeat' (first | exact Below.refl _ _ | apply Below.drew | (refine Below.alloc ?_ ?_ _) | exact Nat.le_refl _ | (simp; done)))).2).mono ?_; rintro e wb ⟨t, ht, rfl, hP, hB⟩; have bb : Bar p w1 wb := (by first | exact ba.trans hB | exact ba.drew.trans hB | exact (ba.alloc _).trans hB | exact (ba.alloc _).drew.trans hB); (try (have zz := zn_bar hB _ (by have := HPN.out; omega) ZA.out; obtain ⟨zb, c0, c1, c2, c3, f0, f1, f2, f3⟩ := zz; have ZB := Lib.hid zb)); (try (have zz := zn_bar hB wa.heap.size (by have := HPN.out; have := BA.out.size; omega) (new_blk wa (.cells #[.int .i64 0, .string ⟨#[]⟩, .int .i64 0, .int .i64 0] 37)); obtain ⟨zb, c0, c1, c2, c3, f0, f1, f2, f3⟩ := zz; have ZB := Lib.hid zb; have XB := Lib.hid BA.out.size)); have PB := Lib.hid hP; have HT := Lib.hid ht; clear hP hB ht)))
        all_goals
          go_wp2_with fail
          go_meet
          case rel =>
            rw [← HT.out]
            first
              | with_reducible exact ⟨_, rfl, NodeAt.of_new HPN.out PB.out bb⟩
              | with_reducible exact ⟨_, rfl, NodeAt.of_set (Nat.le_refl _) HPN.out ZB.out PB.out bb⟩
              | with_reducible exact ⟨_, rfl, NodeAt.of_set (Nat.le_succ _) HPN.out ZB.out PB.out bb⟩
              | with_reducible exact ⟨_, rfl, NodeAt.of_set XB.out HPN.out ZB.out PB.out bb⟩
      case rest =>
        obtain ⟨X, rfl, hXl, hXp, hXb, hP, hB⟩ := hcut
        obtain ⟨w2, hw⟩ : ∃ w2 : World, w2 = wc := ⟨_, rfl⟩
        subst hw
        obtain ⟨tx, htx⟩ : ∃ tx, tx = (take C (isKind [2]) s).1.text := ⟨_, rfl⟩
        obtain ⟨s1, hs1⟩ : ∃ s1, s1 = (take C (isKind [2]) s).2 := ⟨_, rfl⟩
        have hRM := RM.out
        rw [← htx, ← hs1] at hRM
        rw [← htx] at hXb
        rw [← hs1] at hP
        obtain ⟨RL, hRL⟩ : ∃ RL, RL = patL C E P 1000 s1 := ⟨_, rfl⟩
        rw [← hRL] at hRM
        have hz := patL_sz HV.out.zE HV.out.zP (C := C) 1000 s1 hP.lim.2
        have hl7 := hP.lim.1
        rw [← hRL] at hz
        have RM := Lib.hid hRM
        have HRL := Lib.hid hRL
        have HZ := Lib.hid hz
        have P2 := Lib.hid hP
        have B2 := Lib.hid (B1.out.trans hB)
        have X2 := Lib.hid (X1.out.bar hB)
        have ZX := Lib.hid hXb
        clear hRM hRL hz hP hB hXb htx hs1 K1 K2 K3 TT SS x1 XL1 HPN
        go_wp2_with fail
        refine (kindL p [3, 2, 1] 3 #[.int .i64 3, .int .i64 2, .int .i64 1] _ P2.out.lt rfl rfl (by decide)).mono ?_
        rintro e w3 ⟨v3, rfl, hT, hb⟩
        obtain ⟨g3, cap3, rfl⟩ := hT.form
        have T3 := Lib.hid hT
        have P3 := Lib.hid (P2.out.below hb)
        have B3 := Lib.hid (B2.out.step hb)
        have BB := Lib.hid hb
        clear hT hb
        go_wp2_with fail
        refine (key_any p ⟨#[95]⟩ _ P3.out.lt).mono ?_
        rintro e w4 ⟨v4, rfl, hT, hb⟩
        obtain ⟨g4, cap4, rfl⟩ := hT.form
        have T4 : Hid (IsTest p w4 (.func (.func g4) #[] cap4) (isKey wAny)) := Lib.hid hT
        have T3 := Lib.hid (T3.out.below hb)
        have P4 := Lib.hid (P3.out.below hb)
        have B4 := Lib.hid (B3.out.step hb)
        have BB := Lib.hid (below_nx BB.out hb)
        clear hT hb
        go_wp2_with fail
        refine (key_any p ⟨#[40]⟩ _ P4.out.lt).mono ?_
        rintro e w5 ⟨v5, rfl, hT, hb⟩
        obtain ⟨g5, cap5, rfl⟩ := hT.form
        have T5 : Hid (IsTest p w5 (.func (.func g5) #[] cap5) (isKey wLp)) := Lib.hid hT
        have T3 := Lib.hid (T3.out.below hb)
        have T4 := Lib.hid (T4.out.below hb)
        have P5 := Lib.hid (P4.out.below hb)
        have B5 := Lib.hid (B4.out.step hb)
        have BB := Lib.hid (below_nx BB.out hb)
        clear hT hb
        go_wp2_with fail
        refine (beginP_any P5.out.lt T3.out T4.out T5.out).mono ?_
        rintro e w6 ⟨v6, rfl, hT, hb⟩
        obtain ⟨g6, cap6, rfl⟩ := hT.form
        have T6 := Lib.hid hT
        have P6 := Lib.hid (P5.out.below hb)
        have B6 := Lib.hid (B5.out.step hb)
        have BB := Lib.hid (below_nx BB.out hb)
        have X6 := Lib.hid (X2.out.bar (.of_below (p := p) BB.out))
        have Z6 := Lib.hid ((BB.out.block X (Array.getElem?_eq_some_iff.1 ZX.out).1).trans ZX.out)
        have HXP := Lib.hid hXp
        have hpl6 := P6.out.lt
        clear hT hb T3 T4 T5 hXp hXl
        go_wp2_with fail
        go_loopw [3] (fun s3 wr => ∃ (k : Nat) (kids : List (List Nd)) (s' : St) (kv : Value), s3 = kv ∧ LRow w6.heap.size wr kv kids ∧ PS C p dp s' wr ∧ Bar p w6 wr ∧ RL = (kids ++ (patL C E P k s').1, (patL C E P k s').2) ∧ s'.rest.length ≤ k ∧ kids.length + s'.rest.length ≤ 700) (fun _ wr => left p wr)
        case atStart => exact ⟨1000, [], s1, _, rfl, LRow.nil _ _, P6.out, Bar.refl _ _, by rw [HRL.out]; rfl, by omega, by simp; omega⟩
        case round =>
          obtain ⟨wo, hwo⟩ : ∃ wo : World, wo = wr := ⟨_, rfl⟩
          subst hwo
          obtain ⟨k, kids, s', kv, rfl, hrow, hPo, hBo, hRo, hkk, hkl⟩ := hrel
          obtain ⟨q, c, rfl⟩ := hrow.form
          generalize hkn : kids.length = kn at *
          have ROW0 := Lib.hid hrow
          have P0 := Lib.hid hPo
          have B0 := Lib.hid hBo
          have RO := Lib.hid hRo
          have hLEFT := Lib.hid hPo.left
          have xo := (X6.out.bar hBo).2
          have HXO := Lib.hid (X6.out.bar hBo)
          have TO := Lib.hid (T6.out.bar hBo)
          clear hrow hPo hBo hRo
          go_wp2_with fail
          refine (sees1_any P0.out TO.out).mono ?_
          rintro e w7 ⟨rfl, hb⟩
          have P7 := Lib.hid (P0.out.below hb)
          have B7 := Lib.hid (B0.out.step hb)
          have ROW7 := Lib.hid (ROW0.out.below hb)
          have X7 := Lib.hid (HXO.out.bar (.of_below (p := p) hb))
          have x7 := X7.out.2
          clear hb xo
          cases hv : sees [either begP] s'.rest with
          | true =>
            obtain ⟨tk, rs, hrs⟩ := head_of hv
            obtain ⟨k2, rfl⟩ : ∃ k2, k = k2 + 1 := ⟨k - 1, by rw [hrs] at hkk; simp at hkk; omega⟩
            have hsz1 := patom_sz HV.out.zE HV.out.zP (C := C) s' P7.out.lim.2
            have hsz2 := hsz1.2.2.2 hv
            have K := patom_any HV.out s' w7 P7.out
            have RO1 : RL = (kids ++ (patomM C E P s').1 :: (patL C E P k2 (patomM C E P s').2).1, (patL C E P k2 (patomM C E P s').2).2) := by
              rw [RO.out]
              show (kids ++ (if sees [either begP] s'.rest = true then _ else _ : List (List Nd) × St).1, (if sees [either begP] s'.rest = true then _ else _ : List (List Nd) × St).2) = _
              rw [if_pos hv]
            clear hsz1
            generalize patomM C E P s' = Y at K RO1 hsz2
            obtain ⟨a, s2⟩ := Y
            simp only at K RO1 hsz2
            have K := Lib.hid K
            have RO1 := Lib.hid RO1
            clear hrs hv
            go_wp2_with fail
            refine K.out.mono ?_
            rintro e w8 ⟨v8, rfl, hv8, hfr8, hP8, hB8⟩
            obtain ⟨q8, n8, c8, rfl⟩ : ∃ q n c, v8 = .slice q n c := by obtain ⟨_, q, c, e, _⟩ := hv8; exact ⟨q, _, c, e⟩
            have P8 := Lib.hid hP8
            have B8 := Lib.hid (B7.out.trans hB8)
            have V8 := Lib.hid (hv8.below (lit_below w8 (.cells #[.slice q8 n8 c8] 25)))
            have ROW8 := Lib.hid ((ROW7.out.bar hpl6 P7.out.noStr hB8).below (lit_below w8 (.cells #[.slice q8 n8 c8] 25)))
            have OFF := Lib.hid (show ∀ g, (Value.slice q kn c).ownBlock = some g → Off g (Value.slice q8 n8 c8) from fun g hg => by
              obtain ⟨vs, hh, _⟩ := ROW7.out
              exact fresh_off hfr8 (World.ownsRow.there hh hg).2)
            have FRS := Lib.hid (hfr8.mono B7.out.size)
            clear hv8 hfr8 hP8 hB8
            go_wp2_with ((at_builtin; refine wpList_push rfl _ _ rfl w6.heap.size (.slice q kn c) kids rfl ?B1 w8.heap.size rfl (.slice q8 n8 c8) a ?B2 ?B3 ?B4 ?B6 (by first | omega | simp) ?B5 ?_; (case B1 => exact ROW8.out); (case B2 => simp); (case B3 => exact V8.out); (case B4 => exact fun _ => OFF.out); (case B6 => exact FRS.out); (case B5 => exact Nat.le_trans B8.out.size (by simp)); intro p9 cap9 w9 hrow9 hbel9; rw [hkn] at hrow9; have ROW9 := Lib.hid hrow9; have P9 := Lib.hid ((P8.out.below (lit_below w8 _)).behind (hbel9.mono hpl6)); have B9 := Lib.hid (show Bar p w6 w9 from ⟨hbel9.os.trans B8.out.os, hbel9.tape.trans B8.out.tape, hbel9.output.trans B8.out.output, Nat.le_trans B8.out.size (Nat.le_trans (by simp) hbel9.size), fun k hk hp => (hbel9.block k hk).trans (((lit_below w8 _).block k (Nat.lt_of_lt_of_le hk B8.out.size)).trans (B8.out.block k hk hp))⟩); clear hrow9 hbel9))
            go_roundw
            case rel => exact ⟨k2, kids ++ [a], s2, _, rfl, ROW9.out, P9.out, B9.out, by rw [RO1.out]; simp, by omega, by rw [List.length_append, hkn]; simp; omega⟩
            case measure => rw [P9.out.left, hLEFT.out]; omega
          | false =>
            have RO1 : RL = (kids, s') := by
              rw [RO.out]
              cases k with
              | zero => simp [patL]
              | succ k =>
                show (kids ++ (if sees [either begP] s'.rest = true then _ else _ : List (List Nd) × St).1, (if sees [either begP] s'.rest = true then _ else _ : List (List Nd) × St).2) = _
                rw [if_neg (by rw [hv]; simp)]
                simp
            have hz := HZ.out
            rw [RO1] at hz
            simp only at hz
            have RO1 := Lib.hid RO1
            have zx := (B7.out.block X (by have := (Array.getElem?_eq_some_iff.1 Z6.out).1; exact this) HXP.out).trans Z6.out
            obtain ⟨c0, c1, c2, c3, f0, f1, f2, f3⟩ := zn_cells zx
            have MK := makeF_any ⟨24, tx, 0, 0⟩ _ kids w7 ROW7.out.at ⟨by omega, by have := hz.1; omega⟩
            unfold Nd.val at MK
            have MK := Lib.hid MK
            clear hz hv zx f0 f1 f2 f3
            go_wp2_with fail
            refine MK.out.mono ?_
            rintro e w8 ⟨v, rfl, hv, hfr, hb⟩
            have V8 := Lib.hid hv
            have F8 := Lib.hid hfr
            have H8 := Lib.hid hb
            clear hv hfr hb
            go_wp2_with fail
            go_ret
            rw [RM.out, RO1.out]
            exact ⟨_, rfl, V8.out, F8.out.mono (Nat.le_trans B6.out.size B7.out.size), P7.out.below H8.out, (B6.out.trans B7.out).step H8.out⟩
end Go.Proofs.YtggjckalmlploaaGreatDoor
