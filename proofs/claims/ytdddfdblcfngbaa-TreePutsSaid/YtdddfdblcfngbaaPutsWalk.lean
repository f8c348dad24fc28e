/- The walks of the law TreePuts. -/
import Derived.Test.YtdddfdblcfngbaaPutsMath
import Derived.Deep.RegionWith
import Derived.Deep.RegionHeld3
import Derived.IntWalk
namespace Go.Proofs.Ytdddfdblcfngbaa
open Go.RowKit Go.Proofs.TreeMath
theorem below_next {W a b : World} (h : Below W.heap.size W a) (k : Below a.heap.size a b) : Below W.heap.size W b := h.trans (k.mono h.size)
theorem below_drew (w : World) : Below w.heap.size w w.drew := (Below.refl _ _).drew
theorem puts_long (p p2 : Option Addr) (n c n2 c2 : Nat) (i : Int) (w : World) (hn : 60 < n ∨ 60 < n2) : Calls Try.prog 5 #[.slice p n c, .int .i64 i, .slice p2 n2 c2] w (BRet w true) := by
  have key : ∀ B : Bool, decide (60 < (n : Int)) = B → (B = false → 60 < n2) → Calls Try.prog 5 #[.slice p n c, .int .i64 i, .slice p2 n2 c2] w (BRet w true) := by
    intro B hB hB2
    cases B with
    | true =>
      have h1 : 60 < n := by simp at hB; omega
      go_enter Try.func5, Try.ntmps5
      go_wp2_with fail
      refine (awake_any _).mono ?_
      rintro e w1 ⟨y, rfl, rfl, b⟩
      go_wp2_with fail
      refine (awake_any _).mono ?_
      rintro e w2 ⟨y, rfl, rfl, b2⟩
      go_wp2_with fail
      go_ret
      exact ⟨_, rfl, rfl, b.trans (b2.mono b.size)⟩
    | false =>
      have h1 : 60 < n2 := hB2 rfl
      clear hB2
      go_enter Try.func5, Try.ntmps5
      go_wp2_with fail
      refine (awake_any _).mono ?_
      rintro e w1 ⟨y, rfl, rfl, b⟩
      go_wp2_with fail
      refine (awake_any _).mono ?_
      rintro e w2 ⟨y, rfl, rfl, b2⟩
      go_wp2_with fail
      go_ret
      exact ⟨_, rfl, rfl, b.trans (b2.mono b.size)⟩
  exact key _ rfl fun h => by simp at h; omega
set_option maxHeartbeats 8000000 in
theorem puts_no (p p2 : Option Addr) (n c n2 c2 : Nat) (i E : Int) (B : Bool) (ns by' : List Nd) (w : World) (hn : n ≤ 60) (hn2 : n2 ≤ 60) (h : NodesAt w (.slice p n c) ns) (h2 : NodesAt w (.slice p2 n2 c2) by') (hl : Hid (ns.length = n)) (hl2 : Hid (by'.length = n2)) (HE : Hid (endI (kk ns) i = E)) (HB : Hid (wholeB (kk by') = B)) (HP : Hid (putE ns i by' = true)) (hc : (decide (E < 0) = true) ∨ (decide (E < 0) = false ∧ B = false)) :
    Calls Try.prog 5 #[.slice p n c, .int .i64 i, .slice p2 n2 c2] w (BRet w true) := by
  have HPL : Hid (putL ns i by' = []) := Lib.hid (by unfold putL; rw [HP.out]; rfl)
  go_enter Try.func5, Try.ntmps5
  go_wp2_with fail
  refine (awake_any _).mono ?_
  rintro e w1 ⟨y, rfl, rfl, b⟩
  go_wp2_with fail
  refine (own_any _ ns _ (h.below b) (by rw [hl.out]; omega)).mono ?_
  rintro e w3 ⟨v3, rfl, h3, b3⟩
  replace b3 := b.trans (b3.mono b.size)
  clear b
  go_wp2_with fail
  refine (own_any _ by' _ (h2.below b3) (by rw [hl2.out]; omega)).mono ?_
  rintro e w4 ⟨v4, rfl, h4, b4⟩
  replace h3 := h3.below b4
  replace b4 := b3.trans (b4.mono b3.size)
  clear b3
  go_wp2_with fail
  refine (put_any _ _ ns by' i _ h3 h4 (by rw [hl.out]; omega) (by rw [hl2.out]; omega)).mono ?_
  rw [HPL.out, HP.out]
  rintro e w5 ⟨v5, rfl, h5, b5⟩
  replace b5 := b4.trans (b5.mono b4.size)
  clear b4 h3 h4
  obtain ⟨p5, c5, rfl⟩ := nodes_form (n := 0) h5 rfl
  clear h5
  go_wp2_with fail
  refine (ref_end _ ns _ _ (h.below b5) (by rw [hl.out]; omega)).mono ?_
  rintro e w6 ⟨rfl, rfl⟩
  rw [HE.out]
  rcases hc with hc | ⟨hc, rfl⟩
  · go_wp2_with fail
    go_ret
    exact ⟨_, rfl, rfl, b5⟩
  · go_wp2_with fail
    refine (ref_whole _ by' _ (h2.below b5) (by rw [hl2.out]; omega)).mono ?_
    rintro e w6 ⟨rfl, rfl⟩
    rw [HB.out]
    go_wp2_with fail
    go_ret
    exact ⟨_, rfl, rfl, b5⟩
set_option maxHeartbeats 16000000 in
theorem puts_yes (b off n c b2 off2 n2 c2 i E : Nat) (ns by' X T : List Nd) (WB : Bool) (w : World) (hn : n ≤ 60) (hn2 : n2 ≤ 60) (h : NodesAt w (.slice (some ⟨b, off, none⟩) n c) ns) (h2 : NodesAt w (.slice (some ⟨b2, off2, none⟩) n2 c2) by') (hl : Hid (ns.length = n)) (hl2 : Hid (by'.length = n2))
    (hnc : n ≤ c) (hcm : Hid (c ≤ 9223372036854775807)) (hb : b < w.heap.size) (hcell : Hid (CellsIn w b off (nodeCells ns))) (HE : Hid (endI (kk ns) i = E)) (hiE : i < E) (hEn : E ≤ n) (hp2 : 0 < n2)
    (HB : Hid (wholeB (kk by') = true)) (HP : Hid (putE ns i by' = false)) (HPL : Hid (putL ns i by' = X)) (HX : Hid (X = ns.take i ++ (by' ++ ns.drop E))) (HSE : Hid (subE X i = 0)) (HSL : Hid (subL X i = by')) (HT : Hid (subN ns i = T)) (HTl : Hid (T.length ≤ 100000)) (HP2 : Hid (putE ns i T = false)) (HPL2 : Hid (putL ns i T = ns)) (HW : Hid (wholeB (kk X) = WB)) (HW2 : Hid (wholeB (kk ns) = WB)) :
    Calls Try.prog 5 #[.slice (some ⟨b, off, none⟩) n c, .int .i64 i, .slice (some ⟨b2, off2, none⟩) n2 c2] w (BRet w true) := by
  have hE0 : decide ((E : Int) < 0) = false := decide_eq_false (by omega)
  obtain ⟨N, hN⟩ : ∃ N, N = i + n2 + (n - E) := ⟨_, rfl⟩
  obtain ⟨K, hK⟩ : ∃ K, K = i + n2 := ⟨_, rfl⟩
  have hKN : K ≤ N := by omega
  have hwrap : IntKind.i64.wrap ((i : Int) + (n2 : Int)) = (K : Int) := by rw [IntWalk.i64_in _ (by omega)]; omega
  have HK := Lib.hid hK
  have hXl : X.length = N := by
    rw [HX.out, List.length_append, List.length_append, List.length_take, List.length_drop, hl.out, hl2.out]
    omega
  have hNb : N ≤ 120 := by omega
  have hNi : i + n2 ≤ N := by omega
  have HXl := Lib.hid hXl
  clear hXl hN hK
  go_enter Try.func5, Try.ntmps5
  go_wp2_with fail
  refine (awake_any _).mono ?_
  rintro e w1 ⟨y, rfl, rfl, b1⟩
  go_wp2_with fail
  refine (own_any _ ns _ (h.below b1) (by rw [hl.out]; omega)).mono ?_
  rintro e w3 ⟨v3, rfl, h3, b3⟩
  replace b3 := b1.trans (b3.mono b1.size)
  clear b1
  go_wp2_with fail
  refine (own_any _ by' _ (h2.below b3) (by rw [hl2.out]; omega)).mono ?_
  rintro e w4 ⟨v4, rfl, h4, b4⟩
  replace h3 := h3.below b4
  replace b4 := b3.trans (b4.mono b3.size)
  clear b3
  go_wp2_with fail
  refine (put_any _ _ ns by' i _ h3 h4 (by rw [hl.out]; omega) (by rw [hl2.out]; omega)).mono ?_
  rw [HPL.out, HP.out]
  rintro e w5 ⟨v5, rfl, h5, b5⟩
  replace b5 := b4.trans (b5.mono b4.size)
  clear b4 h3 h4
  obtain ⟨pb, po, pc, hv5, hpn, hpm, hpb, hpcell⟩ := nodes_slice h5 (by rw [HXl.out]; omega)
  rw [HXl.out] at hv5 hpn
  subst hv5
  have HPC := Lib.hid hpcell
  have HPM := Lib.hid hpm
  clear hpcell hpm
  go_wp2_with fail
  refine (ref_end _ ns _ _ (h.below b5) (by rw [hl.out]; omega)).mono ?_
  rintro e w6 ⟨rfl, rfl⟩
  rw [HE.out]
  go_wp2_with fail
  refine (ref_whole _ by' _ (h2.below b5) (by rw [hl2.out]; omega)).mono ?_
  rintro e w6 ⟨rfl, rfl⟩
  rw [HB.out]
  go_wp2_with fail
  refine (own_any _ X _ h5 (by rw [HXl.out]; omega)).mono ?_
  rintro e w7 ⟨v7, rfl, h7, b7⟩
  have hp7 := HPC.out.kept (b7.block pb hpb)
  have hpb7 := Nat.lt_of_lt_of_le hpb b7.size
  have HP7 := Lib.hid hp7
  replace h5 := h5.below b7
  replace b7 := b5.trans (b7.mono b5.size)
  clear b5 hp7 hpb HPC
  go_wp2_with fail
  refine (sub_any _ X i _ h7 (by rw [HXl.out]; omega)).mono ?_
  rw [HSL.out, HSE.out]
  rintro e w8 ⟨v8, rfl, h8, b8⟩
  have hp8 := HP7.out.kept (b8.block pb hpb7)
  have hpb8 := Nat.lt_of_lt_of_le hpb7 b8.size
  have HP8 := Lib.hid hp8
  replace h5 := h5.below b8
  replace b8 := b7.trans (b8.mono b7.size)
  clear b7 h7 hp8 hpb7 HP7
  go_wp2_with fail
  refine (own_any _ ns _ (h.below b8) (by rw [hl.out]; omega)).mono ?_
  rintro e w9 ⟨v9, rfl, h9, b9⟩
  have hp9 := HP8.out.kept (b9.block pb hpb8)
  have hpb9 := Nat.lt_of_lt_of_le hpb8 b9.size
  have HP9 := Lib.hid hp9
  replace h5 := h5.below b9
  replace h8 := h8.below b9
  replace b9 := b8.trans (b9.mono b8.size)
  clear b8 hp9 hpb8 HP8
  go_wp2_with fail
  refine (ref_sub _ ns i _ (h.below b9) (by rw [hl.out]; omega) (by rw [HE.out]; omega)).mono ?_
  rw [HT.out]
  rintro e w10 ⟨v10, rfl, h10, b10⟩
  have hp10 := HP9.out.kept (b10.block pb hpb9)
  have hpb10 := Nat.lt_of_lt_of_le hpb9 b10.size
  have HP10 := Lib.hid hp10
  replace h5 := h5.below b10
  replace h8 := h8.below b10
  replace h9 := h9.below b10
  replace b10 := b9.trans (b10.mono b9.size)
  clear b9 hp10 hpb9 HP9
  go_wp2_with fail
  refine (put_any _ _ ns T i _ h9 h10 (by rw [hl.out]; omega) HTl.out).mono ?_
  rw [HPL2.out, HP2.out]
  rintro e w11 ⟨v11, rfl, h11, b11⟩
  have hp11 := HP10.out.kept (b11.block pb hpb10)
  have hpb11 := Nat.lt_of_lt_of_le hpb10 b11.size
  replace h5 := h5.below b11
  replace h8 := h8.below b11
  replace b11 := b10.trans (b11.mono b10.size)
  clear b10 hpb10 HP10 h9 h10
  have hb11 := Nat.lt_of_lt_of_le hb b11.size
  have hcell11 := hcell.out.kept (b11.block b hb)
  obtain ⟨q1, eq1, hq1⟩ := cut_from HXl.out hpn HPM.out hpb11 hp11 K hKN
  obtain ⟨q2, eq2, hq2⟩ := cut_from hl.out hnc hcm.out hb11 hcell11 E hEn
  have hf1 := cut_first HXl.out hpn HPM.out hpb11 hp11 i (by omega)
  have hf2 := cut_first hl.out hnc hcm.out hb11 hcell11 i (by omega)
  have e1 : X.take i = ns.take i := by rw [HX.out, List.take_left' (by rw [List.length_take, hl.out]; omega)]
  have e2 : X.drop K = ns.drop E := by
    rw [HK.out, HX.out, ← List.append_assoc, List.drop_left' (by rw [List.length_append, List.length_take, hl.out, hl2.out]; omega)]
  rw [e1] at hf1
  rw [e2] at hq1
  have F1 := Lib.hid hf1
  have F2 := Lib.hid hf2
  have Q1 := Lib.hid hq1
  have Q2 := Lib.hid hq2
  clear hp11 hcell11 hf1 hf2 hq1 hq2 e1 e2
  have hnb : (ns.take i).length ≤ 1000000 := by rw [List.length_take, hl.out]; omega
  have hnd : (ns.drop E).length ≤ 1000000 := by rw [List.length_drop, hl.out]; omega
  have hby := h2.below b11
  have hns := h.below b11
  go_wp2_with fail
  have z1 : (0 : Int) ≤ (i : Int) := by omega
  have z2 : (i : Int) ≤ (pc : Int) := by omega
  have z3 : (i : Int) ≤ (c : Int) := by omega
  go_region_held3 (fun w' => Below w11.heap.size w11 w') (first | exact below_drew _ | assumption) ((first
    | (go_at_call_of 19 v8; refine (same_any _ _ (by') (by') _ (NodesAt.below h8 (by first | assumption | exact below_drew _)) (NodesAt.below hby (by first | assumption | exact below_drew _)) (by rw [hl2.out]; omega)).mono ?_; rintro e wz ⟨y, hy, rfl, bz⟩; obtain rfl : y = true := (by simpa using hy); clear hy; have bz' := below_next (W := w11) (by first | assumption | exact below_drew _) bz)
    | (go_at_call_of 19 (Value.slice (some ⟨pb, po, none⟩) i pc); refine (same_any _ _ (ns.take i) (ns.take i) _ (NodesAt.below F1.out (by first | assumption | exact below_drew _)) (NodesAt.below F2.out (by first | assumption | exact below_drew _)) hnb).mono ?_; rintro e wz ⟨y, hy, rfl, bz⟩; obtain rfl : y = true := (by simpa using hy); clear hy; have bz' := below_next (W := w11) (by first | assumption | exact below_drew _) bz)
    | (go_at_call_of 19 (Value.slice q1 (N - K) (pc - K)); refine (same_any _ _ (ns.drop E) (ns.drop E) _ (NodesAt.below Q1.out (by first | assumption | exact below_drew _)) (NodesAt.below Q2.out (by first | assumption | exact below_drew _)) hnd).mono ?_; rintro e wz ⟨y, hy, rfl, bz⟩; obtain rfl : y = true := (by simpa using hy); clear hy; have bz' := below_next (W := w11) (by first | assumption | exact below_drew _) bz)
    | (go_at_call_of 19 v11; refine (same_any _ _ (ns) (ns) _ (NodesAt.below h11 (by first | assumption | exact below_drew _)) (NodesAt.below hns (by first | assumption | exact below_drew _)) (by rw [hl.out]; omega)).mono ?_; rintro e wz ⟨y, hy, rfl, bz⟩; obtain rfl : y = true := (by simpa using hy); clear hy; have bz' := below_next (W := w11) (by first | assumption | exact below_drew _) bz)
    | (go_at_call_of 12 (Value.slice (some ⟨pb, po, none⟩) N pc); refine (own_any _ (X) _ (NodesAt.below h5 (by first | assumption | exact below_drew _)) (by rw [HXl.out]; omega)).mono ?_; rintro e wz ⟨vo, rfl, ho1, bz⟩; have bz' := below_next (W := w11) (by first | assumption | exact below_drew _) bz)
    | (go_at_call_of 12 (Value.slice (some ⟨b, off, none⟩) n c); refine (own_any _ (ns) _ (NodesAt.below hns (by first | assumption | exact below_drew _)) (by rw [hl.out]; omega)).mono ?_; rintro e wz ⟨vo, rfl, ho2, bz⟩; have bz' := below_next (W := w11) (by first | assumption | exact below_drew _) bz)
    | (go_at_call 14; refine (whole_any _ (X) _ (by first | assumption | exact NodesAt.below (by assumption) (by assumption)) (by rw [HXl.out]; omega)).mono ?_; rw [HW.out]; rintro e wz ⟨rfl, rfl⟩)
    | (go_at_call 14; refine (whole_any _ (ns) _ (by first | assumption | exact NodesAt.below (by assumption) (by assumption)) (by rw [hl.out]; omega)).mono ?_; rw [HW2.out]; rintro e wz ⟨rfl, rfl⟩)))
  all_goals
    go_wp2_with fail
    go_ret
    exact ⟨_, by simp, rfl, below_next b11 (by assumption)⟩
theorem puts_walk (v v2 : Value) (i : Int) (ns by' : List Nd) (w : World) (h : NodesAt w v ns) (h2 : NodesAt w v2 by') : Calls Try.prog 5 #[v, .int .i64 i, v2] w (BRet w true) := by
  obtain ⟨p, c, hv⟩ : ∃ p c, v = .slice p ns.length c := by obtain ⟨_, p, c, hv, _⟩ := h; exact ⟨p, c, hv⟩
  obtain ⟨p2, c2, hv2⟩ : ∃ p c, v2 = .slice p by'.length c := by obtain ⟨_, p, c, hv, _⟩ := h2; exact ⟨p, c, hv⟩
  subst hv hv2
  by_cases h60 : 60 < ns.length ∨ 60 < by'.length
  · exact puts_long p p2 _ c _ c2 i w h60
  · by_cases hE : endI (kk ns) i < 0
    · exact puts_no p p2 _ c _ c2 i _ _ ns by' w (by omega) (by omega) h h2 rfl rfl rfl rfl (Lib.hid (by unfold putE; rw [decide_eq_true hE]; rfl)) (.inl (decide_eq_true hE))
    · cases hW : wholeB (kk by') with
      | false => exact puts_no p p2 _ c _ c2 i _ false ns by' w (by omega) (by omega) h h2 rfl rfl rfl hW (Lib.hid (by unfold putE; rw [hW]; simp)) (.inr ⟨decide_eq_false hE, rfl⟩)
      | true =>
        rcases endI_range (kk ns) i with h0 | ⟨h1, h3, h4⟩
        · omega
        · rw [length_kk] at h4
          obtain ⟨b, off, c', hv, h5, h6, h7, h8⟩ := nodes_slice h (by omega)
          simp only [Value.slice.injEq] at hv
          obtain ⟨rfl, _, rfl⟩ := hv
          have hp2 := wholeB_pos _ hW
          rw [length_kk] at hp2
          obtain ⟨b2, off2, c2', hv2, _, _, _, _⟩ := nodes_slice h2 hp2
          simp only [Value.slice.injEq] at hv2
          obtain ⟨rfl, _, rfl⟩ := hv2
          obtain ⟨m, rfl⟩ : ∃ m : Nat, i = m := ⟨i.toNat, by omega⟩
          obtain ⟨E, hE'⟩ : ∃ E : Nat, endI (kk ns) m = E := ⟨(endI (kk ns) m).toNat, by omega⟩
          obtain ⟨m1, m2, m3, m4, m5, m6, m7⟩ := putL_math ns by' m E hE' (by omega) (by omega) hW
          have hTl : (subN ns (m : Int)).length ≤ 100000 := by
            unfold subN
            rw [List.length_take, List.length_drop]
            omega
          exact puts_yes b off _ c b2 off2 _ c2 m E ns by' _ _ _ w (by omega) (by omega) h h2 rfl rfl h5 h6 h7 h8 hE' (by omega) (by omega) hp2 hW m1 m2 rfl m3 m4 rfl hTl m5 m6 m7 rfl
end Go.Proofs.Ytdddfdblcfngbaa
