/- Texts of this seat, one behind the other: DaV. -/
import Derived.Test.YtncifeeinogcnaaGreatDoorKn24
import Derived.Test.YtncifeeinogcnaaGreatDoorKn26
import Derived.Test.YtncifeeinogcnaaGreatDoorKn41
import Derived.Test.YtncifeeinogcnaaGreatDoorKn31
/- The document's Sub and Parts. -/
set_option maxRecDepth 100000
namespace Go.Proofs.YtncifeeinogcnaaGreatDoor
open Go.Shelf Go.RowKit Go.Lib Go.Sort Go.Maps Go.Proofs.TreeMath Go.Proofs.LexMath

set_option maxHeartbeats 1000000 in
theorem ref_sub_mid (b off n c i E : Nat) (pre mid post : List Nd) (w : World) (h : NodesAt w (.slice (some ⟨b, off, none⟩) n c) (pre ++ (mid ++ post))) (hi : pre.length = i) (hE : endI (kk (pre ++ (mid ++ post))) i = E) (hm : E = i + mid.length) (hm0 : 0 < mid.length) (hn1 : n ≤ 1000000) :
    Calls Tryz.prog 78 #[.slice (some ⟨b, off, none⟩) n c, .int .i64 i] w (NRet w mid) := by
  obtain ⟨i0, hi', hz0, hz1, hz2⟩ := infoNode
  have HI := Lib.hid (And.intro hi' (And.intro hz0 (And.intro hz1 hz2)))
  clear hi' hz0 hz1 hz2
  obtain ⟨b2, o2, c2, e2, hnc, hcm, hb, hc⟩ := nodes_slice h (by rw [List.length_append, List.length_append]; omega)
  simp only [Value.slice.injEq, Option.some.injEq, Addr.mk.injEq, and_true] at e2
  obtain ⟨⟨rfl, rfl⟩, hnl, rfl⟩ := e2
  have hl : (pre ++ (mid ++ post)).length = i + mid.length + post.length := by rw [List.length_append, List.length_append, hi]; omega
  have hEn : E ≤ n := by omega
  have hEc : E ≤ c := by omega
  have hiE : i < E := by omega
  have hcut := cut_mid h hb hc (c - i) (by omega) (by omega)
  rw [hi] at hcut
  have hlen : mid.length = E - i := by omega
  obtain ⟨_, p, cp, hv, _, _, hsrc⟩ := hcut
  simp only [Value.slice.injEq] at hv
  obtain ⟨rfl, _, rfl⟩ := hv
  obtain ⟨b3, o3, hh, _, hcc⟩ := hsrc (by omega)
  simp only [Option.some.injEq, Addr.mk.injEq, and_true] at hh
  obtain ⟨rfl, rfl⟩ := hh
  have HC2 := Lib.hid hcc
  have HL2 := Lib.hid hlen
  have HE := Lib.hid (fun W (hW : Below w.heap.size w W) => ref_end _ _ (i : Int) W (h.below hW) (by rw [← hnl]; exact hn1))
  rw [hE] at HE
  have HX : Hid (E - i ≤ 1000000) := Lib.hid (by omega)
  have hnc' : n ≤ c := by omega
  clear hsrc hcc hlen h hc hE hl hm hm0 hi hnl hcm hnc
  go_enter Tryz.func78, Tryz.ntmps78
  go_wp2_with (first
    | (go_at_call 88; refine (HE.out _ (box_keep _)).mono ?_; rintro e w' ⟨rfl, rfl⟩)
    | (at_builtin; refine wpList_append_own _ rfl _ _ 22 rfl w.heap.size 58 i0 zeroNode 4 40 Tryz.underlying22 HI.out.1 HI.out.2.1 HI.out.2.2.1 HI.out.2.2.2 rfl (by decide) _ 0 [] rfl (World.ownsRow_made w #[] 0 (Nat.le_refl _) (Nat.zero_le _) rfl) ⟨b, off + i * 4, none⟩ (E - i) (c - i) (nodeCells mid) rfl (by rw [length_nodeCells, HL2.out]) (HC2.out.kept (Below.heap_alloc _ _ b hb)).at (nodeCells_one mid) (by unfold maxLen; have := HX.out; omega) (by have := HX.out; omega) (by simp) ?_; intro v' w3 hown' hgrow hnil; have HO3 := Lib.hid hown'; have HG := Lib.hid hgrow; clear hown' hgrow hnil))
  first | go_ret | skip
  refine ⟨_, rfl, ?_, ?_⟩
  · have := SliceAt.of_owns HO3.out
    unfold NodesAt
    rw [HL2.out]
    simpa using this
  · exact ((Below.refl _ _).alloc (Nat.le_refl _) _).grown HG.out (by simp) fun k hk => by
      have hk' : some w.heap.size = some k := hk
      simp at hk'
      omega
theorem Pt.len {t : T} {L : List T} {r : T} (h : Pt t L r) : L.length < szT t := by
  induction h with
  | fin t _ => unfold szT; simp only [List.length_nil]; omega
  | arr n a b L r _ _ ih =>
    unfold szT at ih ⊢
    simp only [List.length_cons, F.sz]
    omega
def RpP (t : T) (w : World) (e : Ending) (w' : World) : Prop := ∃ v1 v2 L r, e = .returned (.tuple #[v1, v2]) ∧ Pt t L r ∧ ListsAt w' v1 (L.map flatT) ∧ NodesAt w' v2 (flatT r) ∧ Below w.heap.size w w'
theorem lit_row (w : World) (v : Value) (T : TypeId) : (w.alloc (.cells #[v] T)).ownsRow w.heap.size T 1 (.slice (some ⟨w.heap.size, 0, none⟩) 1 1) 1 [v] :=
  ⟨rfl, .inr ⟨w.heap.size, 1, #[v], rfl, Nat.le_refl _, heap_alloc_new _ _, Nat.le_refl _, by decide, rfl, by simp⟩⟩
theorem rparts_no (t : T) (v : Value) (w : World) (h : NodesAt w v (flatT t)) (ha : t.1.text ≠ sArrow) : Calls Tryz.prog 35 #[v] w (RpP t w) := by
  have hp : 0 < (flatT t).length := by rw [flatT_length]; unfold szT; omega
  obtain ⟨b, o, c, rfl, hnc, hcm, hb, hc⟩ := nodes_slice h hp
  have x1 := (hc.node 0 hp).2.1
  have eg : (flatT t).getD 0 default = t.1 := by rw [flatT_eq]; rfl
  rw [eg, Nat.zero_mul, Nat.add_zero] at x1
  have F : Hid (RpP t w (.returned (.tuple #[.slice none 0 0, .slice (some ⟨b, o, none⟩) (flatT t).length c])) w) := Lib.hid ⟨_, _, [], t, rfl, .fin t ha, ⟨[], ⟨rfl, _, _, rfl, Nat.le_refl _, by unfold maxLen; omega, fun h => absurd rfl h⟩, fun i hi => absurd hi (Nat.not_lt_zero _)⟩, h, Below.refl _ _⟩
  have n1 := str_ne ha
  have n2 := str_ne' ha
  unfold sArrow at n1 n2
  have e3 : (⟨#[45, 62]⟩ : ByteArray).toList = [45, 62] := by simp [ByteArray.toList_eq]
  rw [e3] at n1 n2
  obtain ⟨m, hm⟩ : ∃ m, m = (flatT t).length := ⟨_, rfl⟩
  rw [← hm] at F hp ⊢
  have k0 : ((0 : Int) < (m : Int)) := by omega
  generalize RpP t w = Z at F ⊢
  clear e3 h ha hnc hcm hb hc eg hm
  go_enter Tryz.func35, Tryz.ntmps35
  go_wp2
  first | go_ret2 | skip
  exact F.out
set_option maxHeartbeats 2000000 in
theorem rparts_step (t a tb : T) (ih : ∀ v w, NodesAt w v (flatT tb) → Calls Tryz.prog 35 #[v] w (RpP tb w)) (v : Value) (w : World) (h : NodesAt w v (flatT t)) (hg : GT t) (ha : t.1.text = sArrow) (et : t = (t.1, .cons a.1 a.2 (.cons tb.1 tb.2 .nil))) (hz : szT t ≤ 4000) : Calls Tryz.prog 35 #[v] w (RpP t w) := by
  obtain ⟨a', b', et', ga, gb, ef, ee⟩ := arrow_two hg ha
  obtain ⟨rfl, rfl⟩ : a = a' ∧ tb = b' := by
    rw [et] at et'
    simp only [Prod.mk.injEq, F.cons.injEq, and_true, true_and] at et'
    exact ⟨Prod.ext et'.1 et'.2.1, Prod.ext et'.2.2.1 et'.2.2.2⟩
  obtain ⟨i0, hi', hz0, hz1, hz2⟩ := infoSl
  have HI := Lib.hid (And.intro hi' (And.intro hz0 (And.intro hz1 hz2)))
  clear hi' hz0 hz1 hz2
  have hp : 0 < (flatT t).length := by rw [flatT_length]; unfold szT; omega
  obtain ⟨b, o, c, rfl, hnc, hcm, hb, hc⟩ := nodes_slice h hp
  have x1 := (hc.node 0 hp).2.1
  have eg : (flatT t).getD 0 default = t.1 := by rw [flatT_eq]; rfl
  rw [eg, Nat.zero_mul, Nat.add_zero, ha] at x1
  unfold sArrow at x1
  have hl4 : (flatT t).length ≤ 4000 := by rw [flatT_length]; exact hz
  obtain ⟨m, hm⟩ : ∃ m, m = (flatT t).length := ⟨_, rfl⟩
  obtain ⟨E1, hE1⟩ : ∃ E1, E1 = 1 + szT a := ⟨_, rfl⟩
  have hza : 1 ≤ szT a := by unfold szT; omega
  have hzb : 1 ≤ szT tb := by unfold szT; omega
  have hsz : m = E1 + szT tb := by rw [hm, ef, List.length_append, List.length_append, List.length_singleton, flatT_length, flatT_length, hE1]; omega
  have kd : kidsI (kk (flatT t)) 0 = [1, E1] := by
    have := kids_flat t.1 t.2 hg.2.1 hg.1 [] []
    rw [List.append_nil, List.nil_append, ← flatT_eq] at this
    have e : startsF t.2 1 = [1, E1] := by rw [et, hE1]; simp [startsF, szT]; omega
    simpa [e] using this
  have hKI := Lib.hid (ref_kids _ (flatT t) 0 w h (by omega))
  rw [kd, ← hm] at hKI
  have ef2 : flatT t = ([t.1] ++ flatT a) ++ (flatT tb ++ []) := by rw [ef, List.append_nil, List.append_assoc]
  have SB : Hid (∀ W, Below w.heap.size w W → Calls Tryz.prog 78 #[.slice (some ⟨b, o, none⟩) m c, .int .i64 E1] W (NRet W (flatT tb))) := Lib.hid fun W hW => by
    have hW' := h.below hW
    rw [← hm] at hW'
    rw [ef2] at hW'
    refine ref_sub_mid b o m c E1 m ([t.1] ++ flatT a) (flatT tb) [] W hW' (by rw [List.length_append, List.length_singleton, flatT_length, hE1]) ?_ (by rw [flatT_length]; exact hsz) (by rw [flatT_length]; exact hzb) (by omega)
    have := fin_flat (.cons tb.1 tb.2 .nil) ⟨gb.2.1, gb.1, trivial⟩ ([t.1] ++ flatT a) []
    have e3 : (F.cons tb.1 tb.2 .nil).flat = flatT tb := rfl
    rw [e3] at this
    simp only [F.cnt, F.sz] at this
    rw [endI_nat]
    rw [show E1 = ([t.1] ++ flatT a).length by rw [List.length_append, List.length_singleton, flatT_length, hE1]]
    refine this.trans ?_
    rw [List.length_append, List.length_singleton, flatT_length, hsz, hE1]
    unfold szT
    congr 1
  have SA : Hid (∀ W, Below w.heap.size w W → Calls Tryz.prog 78 #[.slice (some ⟨b, o, none⟩) m c, .int .i64 (1 : Nat)] W (NRet W (flatT a))) := Lib.hid fun W hW => by
    have hW' := h.below hW
    rw [← hm] at hW'
    rw [ef] at hW' ee
    exact ref_sub_mid b o m c 1 E1 [t.1] (flatT a) (flatT tb) W hW' rfl (by rw [hE1]; exact ee) (by rw [flatT_length, hE1]) (by rw [flatT_length]; exact hza) (by omega)
  have E : Hid (∀ L r v1 v2 w', Pt tb L r → ListsAt w' v1 (flatT a :: L.map flatT) → NodesAt w' v2 (flatT r) → Below w.heap.size w w' → RpP t w (.returned (.tuple #[v1, v2])) w') := Lib.hid fun L r v1 v2 w' h1 h2 h3 h4 => ⟨v1, v2, a :: L, r, rfl, by rw [et]; exact .arr _ _ _ _ _ ha h1, h2, h3, h4⟩
  have IH := Lib.hid ih
  have k0 : ((0 : Int) < (m : Int)) := by omega
  have HZB : Hid (szT tb ≤ 4000) := Lib.hid (by omega)
  have HPA : Hid (0 < (flatT a).length) := Lib.hid (by rw [flatT_length]; exact hza)
  rw [← hm]
  generalize RpP t w = Z at E ⊢
  clear ih h hg ha et et' hz ga gb ef ee hp hnc hcm hb hc eg hl4 hm hE1 hza hzb hsz kd ef2
  go_enter Tryz.func35, Tryz.ntmps35
  go_wp2_with fail
  refine hKI.out.mono ?_
  rintro e w2 ⟨kv, rfl, hk, b2⟩
  obtain ⟨_, kp, kc, rfl, _, _, hkc⟩ := hk
  obtain ⟨kb, ko, rfl, hkb, hkcells⟩ := hkc (by simp [ofNats])
  have y0 := hkcells 0 (.int .i64 (1 : Nat)) (by simp [ofNats, intCells])
  have y1 := hkcells 1 (.int .i64 (E1 : Nat)) (by simp [ofNats, intCells])
  rw [Nat.add_zero] at y0
  have Y0 := Lib.hid y0
  have KB := Lib.hid hkb
  have B2 := Lib.hid b2
  have C3 := Lib.hid (SB.out w2 b2)
  clear hkc hkcells b2 y0 hkb
  simp only [show (ofNats [1, E1]).length = 2 from rfl]
  go_wp2_with fail
  refine C3.out.mono ?_
  rintro e w3 ⟨v3, rfl, n3, b3⟩
  have B3 := Lib.hid (B2.out.trans (b3.mono B2.out.size))
  have y3 := (b3.cell (p := ⟨kb, ko, none⟩) KB.out).trans Y0.out
  have K3 := Lib.hid (Nat.lt_of_lt_of_le KB.out b3.size)
  have Y3 := Lib.hid y3
  have C4 := Lib.hid (IH.out v3 w3 n3)
  obtain ⟨q3, c3, rfl⟩ := nodes_form' n3
  clear b3 n3 y3 C3 y1
  go_wp2_with fail
  refine C4.out.mono ?_
  rintro e w4 ⟨v4, r4, L, r, rfl, hpt, l4, n4, b4⟩
  have B4 := Lib.hid (B3.out.trans (b4.mono B3.out.size))
  have y4 := (b4.cell (p := ⟨kb, ko, none⟩) K3.out).trans Y3.out
  have L4 := Lib.hid l4
  have N4 := Lib.hid n4
  have PT := Lib.hid hpt
  have C5 := Lib.hid (SA.out w4 B4.out)
  obtain ⟨q4, c4, rfl⟩ := l4.form
  obtain ⟨q4r, c4r, rfl⟩ := nodes_form' n4
  clear b4 l4 n4 hpt C4
  obtain ⟨l, hl⟩ : ∃ l, l = (L.map flatT).length := ⟨_, rfl⟩
  have HL := Lib.hid hl
  have HLE : Hid (l ≤ 4000) := Lib.hid (by rw [hl, List.length_map]; have := PT.out.len; have := HZB.out; omega)
  rw [← hl] at L4 ⊢
  clear hl
  go_wp2_with fail
  refine C5.out.mono ?_
  rintro e w5 ⟨v5, rfl, n5, b5⟩
  have B5 := Lib.hid (B4.out.trans (b5.mono B4.out.size))
  have N5 := Lib.hid n5
  have L5 := Lib.hid (L4.out.below b5)
  have R5 := Lib.hid (N4.out.below b5)
  obtain ⟨q5, c5, rfl⟩ := nodes_form' n5
  obtain ⟨am, ham⟩ : ∃ am, am = (flatT a).length := ⟨_, rfl⟩
  have HPA2 := Lib.hid HPA.out
  rw [← ham] at N5 ⊢
  obtain ⟨vs, ⟨hvl, p9, c9, e9, _, _, hsrc⟩, hvs⟩ := L5.out
  simp only [Value.slice.injEq] at e9
  obtain ⟨rfl, hll, rfl⟩ := e9
  have HV := Lib.hid hvs
  have HVL := Lib.hid (show vs.length = l * 1 by rw [hvl, HL.out])
  have SRC : Hid (l ≠ 0 → ∃ ad, q4 = some ad ∧ ∀ j u, vs[j]? = some u → (w5.alloc (.cells #[.slice q5 am c5] 22)).cell? (ad.add j) = some u) := Lib.hid fun h0 => by
    obtain ⟨b9, o9, rfl, hb9, hc9⟩ := hsrc (by rw [← HL.out]; exact h0)
    exact ⟨_, rfl, (hc9.kept ((box_keep _).block b9 hb9)).at⟩
  have ONE : Hid (∀ u ∈ vs, u.oneCell' = true) := Lib.hid fun u hu => by
    obtain ⟨i, hi, rfl⟩ := List.getElem_of_mem hu
    have := HV.out i (by rw [← HL.out]; have := HVL.out; omega)
    obtain ⟨q0, c0, e0⟩ := nodes_form' this
    rw [List.getD_eq_getElem?_getD, List.getElem?_eq_getElem hi] at e0
    simp only [Option.getD_some] at e0
    rw [e0]; rfl
  have R1 := Lib.hid (lit_row w5 (.slice q5 am c5) 22)
  have HK : Hid (1 + l ≤ maxLen ∧ (1 + l) * 24 ≤ 140737488355328) := Lib.hid (by have := HLE.out; constructor; unfold maxLen; omega; omega)
  clear n5 b5 ham hvl hsrc hvs hll C5 HPA
  go_wp2_with ((at_builtin; refine wpList_append_any _ rfl _ _ 50 rfl w5.heap.size 22 i0 (.slice none 0 0) 1 24 Tryz.underlying50 HI.out.1 HI.out.2.1 HI.out.2.2.1 HI.out.2.2.2 rfl (by decide) (.slice (some ⟨w5.heap.size, 0, none⟩) 1 1) 1 [.slice q5 am c5] rfl R1.out q4 l c4 vs rfl HVL.out SRC.out ONE.out HK.out.1 HK.out.2 (by simp) ?_; intro p' cap' w7 hown hgrow hblk; have RN := Lib.hid hown; have GN := Lib.hid hgrow; clear hown hgrow hblk))
  first | go_ret2 | skip
  have keep : ∀ v0 t0, NodesAt w5 v0 t0 → 0 < t0.length → NodesAt w7 v0 t0 := fun v0 t0 h0 h1 => by
    obtain ⟨bb, oo, cc, e0, _, _, hbb, _⟩ := nodes_slice h0 h1
    refine SliceAt.grown (h0.below (box_keep (.cells #[.slice q5 am c5] 22))) GN.out (.inr ?_)
    rw [e0]
    intro e1
    simp [Value.ownBlock] at e1
    omega
  have fpos : ∀ t0 : T, 0 < (flatT t0).length := fun t0 => by rw [flatT_length]; unfold szT; omega
  refine E.out L r _ _ w7 PT.out ⟨.slice q5 am c5 :: vs, ?_, fun i hi => ?_⟩ (keep _ _ R5.out (fpos r)) (((B5.out.trans ((box_keep _).mono B5.out.size))).grown GN.out (Nat.le_trans B5.out.size (box_keep _).size) fun k e => by
    simp [Value.ownBlock] at e
    have := B5.out.size
    omega)
  · have := SliceAt.of_owns RN.out
    have e : (flatT a :: L.map flatT).length = 1 + l := by rw [List.length_cons, ← HL.out]; omega
    rw [e]
    exact this
  · cases i with
    | zero => exact keep _ _ N5.out HPA2.out
    | succ i =>
      rw [List.getD_cons_succ, List.getD_cons_succ]
      have hi2 : i < (L.map flatT).length := by simpa using hi
      refine keep _ _ (HV.out i hi2) ?_
      rw [List.getD_eq_getElem?_getD, List.getElem?_eq_getElem hi2, List.getElem_map]
      exact fpos _
theorem rparts_any : ∀ (m : Nat) (t : T) (v : Value) (w : World), szT t ≤ m → GT t → NodesAt w v (flatT t) → szT t ≤ 4000 → Calls Tryz.prog 35 #[v] w (RpP t w) := by
  intro m
  induction m with
  | zero => intro t v w h; unfold szT at h; omega
  | succ m ih =>
    intro t v w hm hg h hz
    by_cases ha : t.1.text = sArrow
    · obtain ⟨a, b, et, ga, gb, ef, _⟩ := arrow_two hg ha
      have hs : szT t = 1 + (szT a + szT b) := by rw [← flatT_length, ef, List.length_append, List.length_append, List.length_singleton, flatT_length, flatT_length]
      exact rparts_step t a b (fun v w h => ih b v w (by omega) gb h (by omega)) v w h hg ha et hz
    · exact rparts_no t v w h ha
end Go.Proofs.YtncifeeinogcnaaGreatDoor
