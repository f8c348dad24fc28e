/- The document's own answers: Deep, Up. -/
import Derived.Test.YtlalnmefppbebaaRefKids
import Derived.Test.YtlalnmefppbebaaDeep
import Derived.Test.YtlalnmefppbebaaUp
namespace Go.Proofs.Ytlalnmefppbebaa
open Go.RowKit Go.Proofs.TreeMath
def subK (ks : List Int) (i : Nat) : List Int := (ks.drop i).take ((fin ks i 1).toNat - i)
theorem mx_one (Ts : List (List Int)) : ∀ d, mx (d + 1) 1 Ts = mx d 0 Ts + 1 := by
  induction Ts with
  | nil => intro d; rfl
  | cons t ts ih =>
    intro d
    rw [mx_cons, mx_cons, ← ih]
    congr 1
    omega
theorem mx_snoc (Ts : List (List Int)) (T : List Int) (d a : Nat) : mx d a (Ts ++ [T]) = max (mx d a Ts) (a + deepI T) := by simp [mx, List.foldl_append]
theorem subK_parts (ks : List Int) (i : Nat) (h : 0 ≤ fin ks i 1) : subK ks i = ks.getD i 0 :: ((kidsI ks i).map (subK ks)).flatten ∧ (ks.getD i 0).toNat = (kidsI ks i).length ∧ (∀ s ∈ kidsI ks i, i < s ∧ 0 ≤ fin ks s 1) := by
  have h1 := kid_nonneg ks i h
  have h2 := fin_kids ks i h
  have hk : kidsI ks i = starts ks (i + 1) (ks.getD i 0).toNat := by unfold kidsI; rw [endI_nat, if_neg (by omega), Int.toNat_natCast]
  have h3 := sub_parts ks ks (ks.getD i 0).toNat (i + 1) (by omega)
  have h4 := fin_le ks i 1 h
  rw [hk]
  refine ⟨?_, by rw [starts_length], ?_⟩
  · show _ = ks.getD i 0 :: ((starts ks (i + 1) (ks.getD i 0).toNat).map fun s => (ks.drop s).take ((fin ks s 1).toNat - s)).flatten
    rw [← h3, ← h2]
    unfold subK
    rw [drop_get ks i h1.1, show (fin ks i 1).toNat - i = ((fin ks i 1).toNat - (i + 1)) + 1 by omega, List.take_succ_cons]
  · intro s hs
    obtain ⟨j, hj, hg⟩ := List.getElem_of_mem hs
    rw [starts_length] at hj
    have h5 := starts_get ks _ (i + 1) j hj (by omega)
    rw [List.getD_eq_getElem?_getD, List.getElem?_eq_getElem (by rw [starts_length]; exact hj), hg] at h5
    simp only [Option.getD_some] at h5
    have h6 := fin_add ks (i + 1) j 1
    have h7 := fin_le ks (i + 1) j (by omega)
    rw [if_neg (by omega), ← h5.1, Int.toNat_natCast] at h6
    exact ⟨by omega, by omega⟩
theorem deep_subK (ks : List Int) (i : Nat) (h : 0 ≤ fin ks i 1) : deepI (subK ks i) = mx 0 0 ((kidsI ks i).map (subK ks)) + 1 := by
  obtain ⟨h1, h2, h3⟩ := subK_parts ks i h
  have hw : wholeB (subK ks i) = true := sub_whole ks i h
  rw [h1] at hw ⊢
  rw [deepI_parts _ _ (by rw [h2, List.length_map]) hw (by
    intro t ht
    obtain ⟨s, hs, rfl⟩ := List.mem_map.1 ht
    exact sub_whole ks s (h3 s hs).2)]
  exact mx_one _ 0
theorem subK_zero (ks : List Int) (h : wholeB ks = true) : subK ks 0 = ks := by
  unfold subK
  rw [whole_fin ks h]
  simp
theorem ints_one {w : World} {v : Value} {xs : List Int} (h : IntsAt w v xs) : ∃ p c, v = .slice p xs.length c ∧ ∀ i, i < xs.length → ∃ b off, p = some ⟨b, off, none⟩ ∧ b < w.heap.size ∧ w.cell? ⟨b, off + i, none⟩ = some (.int .i64 (xs.getD i 0)) := by
  obtain ⟨_, p, c, rfl, _, _, hp⟩ := h
  refine ⟨p, c, rfl, fun i hi => ?_⟩
  obtain ⟨b, off, rfl, hb, hc⟩ := hp (by omega)
  exact ⟨b, off, rfl, hb, hc.int i hi⟩
theorem mx_le (Ts : List (List Int)) (B : Nat) (h : ∀ t ∈ Ts, deepI t ≤ B) : ∀ d, d ≤ B → mx d 0 Ts ≤ B := by
  induction Ts with
  | nil => intro d hd; exact hd
  | cons t ts ih =>
    intro d hd
    rw [mx_cons]
    have := h t (by simp)
    exact ih (fun x hx => h x (by simp [hx])) _ (by omega)
theorem subK_len (ks : List Int) (i : Nat) : (subK ks i).length ≤ ks.length := by
  unfold subK
  rw [List.length_take, List.length_drop]
  omega
set_option maxHeartbeats 1000000 in
theorem ref_deep_in (p : Option Addr) (n c : Nat) (ns : List Nd) (hl : Hid (ns.length = n)) (hn : n ≤ 1000000) (hW : Hid (wholeB (kk ns) = true)) :
    ∀ d i : Nat, i < n → n ≤ i + d → ∀ w, NodesAt w (.slice p n c) ns → Calls Try.prog 33 #[.slice p n c, .int .i64 i] w (IRet w (deepI (subK (kk ns) i))) := by
  intro d
  induction d with
  | zero => intro i h1 h2; omega
  | succ d ih =>
    intro i hi hid w h
    have hfin := whole_sub (kk ns) hW.out i (by rw [length_kk, hl.out]; exact hi)
    obtain ⟨XS, hXS⟩ : ∃ XS, XS = kidsI (kk ns) i := ⟨_, rfl⟩
    have hall : ∀ s ∈ XS, i < s ∧ s < n := by
      intro s hs
      rw [hXS] at hs
      have h1 := (subK_parts (kk ns) i hfin).2.2 s hs
      have h2 := (kid_nonneg (kk ns) s h1.2).1
      rw [length_kk, hl.out] at h2
      exact ⟨h1.1, h2⟩
    have hXn : XS.length ≤ n := by
      rw [hXS, ← (subK_parts (kk ns) i hfin).2.1, ← hl.out, ← length_kk ns]
      have := kid_few (kk ns) i hfin
      omega
    have hres := deep_subK (kk ns) i hfin
    rw [← hXS] at hres
    have hb : ∀ j, mx 0 0 ((XS.take j).map (subK (kk ns))) ≤ n := fun j => mx_le _ n (fun t ht => by
      obtain ⟨s, _, rfl⟩ := List.mem_map.1 ht
      refine Nat.le_trans (deepI_le _) ?_
      rw [← hl.out, ← length_kk ns]
      exact subK_len _ _) 0 (Nat.zero_le _)
    have HR := Lib.hid hres
    have HA := Lib.hid hall
    have HB := Lib.hid hb
    have HX := Lib.hid hXS
    have IH := Lib.hid ih
    clear hall hres hXS ih hfin hb
    go_enter Try.func33, Try.ntmps33
    go_wp2_with fail
    refine (ref_kids _ ns _ _ h (by rw [hl.out]; exact hn)).mono ?_
    rintro e w1 ⟨v', rfl, hv, hb1⟩
    rw [← HX.out] at hv
    obtain ⟨q, cq, hvq, hcell⟩ := ints_one hv
    obtain ⟨N, hN⟩ : ∃ N, N = XS.length := ⟨_, rfl⟩
    have hNl : (ofNats XS).length = N := by simp [ofNats, hN]
    rw [hNl] at hvq hcell
    subst hvq
    have hNn : N ≤ n := by rw [hN]; exact hXn
    have HN := Lib.hid hN
    clear hXn
    have HC := Lib.hid hcell
    have HV := Lib.hid hv
    clear hN hNl hcell hv
    go_wp2_with fail
    go_loopw [5, 7] (fun s t wr => ∃ j S : Nat, j ≤ N ∧ t = .int .i64 j ∧ s = .int .i64 S ∧ S ≤ n ∧ S = mx 0 0 ((XS.take j).map (subK (kk ns))) ∧ Below w1.heap.size w1 wr) (fun _ t _ => N - (intOf t).toNat)
    case atStart => exact ⟨0, 0, Nat.zero_le _, rfl, rfl, Nat.zero_le _, rfl, Below.refl _ _⟩
    case round =>
      obtain ⟨j, S, hj, rfl, rfl, hSn, hS, hbel⟩ := hrel
      have HS := Lib.hid hS
      clear hS
      by_cases hlt : j < N
      · obtain ⟨b2, off2, rfl, hb2, hc2⟩ := HC.out j hlt
        have hc3 := (hbel.cell (p := ⟨b2, off2 + j, none⟩) hb2).trans hc2
        have hjl : j < XS.length := by rw [← HN.out]; exact hlt
        obtain ⟨s, hs⟩ : ∃ s, s = XS[j] := ⟨_, rfl⟩
        have hsm := HA.out s (by rw [hs]; exact List.getElem_mem hjl)
        have he : (ofNats XS).getD j 0 = (s : Int) := by
          rw [hs]
          simp [ofNats, List.getD_eq_getElem?_getD, List.getElem?_eq_getElem hjl]
        rw [he] at hc3
        have hst : mx 0 0 ((XS.take (j + 1)).map (subK (kk ns))) = max S (deepI (subK (kk ns) s)) := by
          rw [List.take_succ_eq_append_getElem hjl, List.map_append, List.map_cons, List.map_nil, mx_snoc, ← HS.out, ← hs, Nat.zero_add]
        have hbb := HB.out (j + 1)
        rw [hst] at hbb
        obtain ⟨D, hD⟩ : ∃ D, D = deepI (subK (kk ns) s) := ⟨_, rfl⟩
        rw [← hD] at hst hbb
        have HD := Lib.hid hD
        have HT := Lib.hid hst
        have hnode : NodesAt wr (.slice p n c) ns := (h.below hb1).below hbel
        clear hc2 he hs hst hD
        by_cases hSD : S < D
        · have t1 : decide ((S : Int) < (D : Int)) = true := decide_eq_true (by omega)
          have t2 : decide (S < D) = true := decide_eq_true hSD
          go_wp2_with ((go_at_call 33; refine (IH.out s hsm.2 (by omega) wr hnode).mono ?_; rw [← HD.out]; rintro e w2 ⟨y, rfl, rfl, hb3⟩))
          go_roundw
          case rel => exact ⟨j + 1, D, by omega, by go_num, rfl, by omega, by rw [HT.out]; omega, hbel.trans (hb3.mono hbel.size)⟩
          case measure => simp [intOf]; omega
        · have t1 : decide ((S : Int) < (D : Int)) = false := decide_eq_false (by omega)
          have t2 : decide (S < D) = false := decide_eq_false hSD
          go_wp2_with ((go_at_call 33; refine (IH.out s hsm.2 (by omega) wr hnode).mono ?_; rw [← HD.out]; rintro e w2 ⟨y, rfl, rfl, hb3⟩))
          go_roundw
          case rel => exact ⟨j + 1, S, by omega, by go_num, rfl, by omega, by rw [HT.out]; omega, hbel.trans (hb3.mono hbel.size)⟩
          case measure => simp [intOf]; omega
      · obtain rfl : j = N := by omega
        go_wp2_with fail
        go_ret
        refine ⟨_, ?_, rfl, hb1.trans (hbel.mono hb1.size)⟩
        rw [HR.out]
        have h9 := HS.out
        rw [HN.out, List.take_length] at h9
        rw [← h9]
        simp
theorem ref_deep (v : Value) (ns : List Nd) (w : World) (h : NodesAt w v ns) (hn : ns.length ≤ 1000000) (hW : wholeB (kk ns) = true) : Calls Try.prog 33 #[v, .int .i64 0] w (IRet w (deepI (kk ns))) := by
  have hp := wholeB_pos _ hW
  rw [length_kk] at hp
  obtain ⟨p, c, hv⟩ : ∃ p c, v = .slice p ns.length c := by obtain ⟨_, p, c, hv, _⟩ := h; exact ⟨p, c, hv⟩
  subst hv
  have := ref_deep_in p ns.length c ns rfl hn hW ns.length 0 hp (by omega) w h
  rw [subK_zero _ hW] at this
  exact this
/-- Up's answer: the first node among whose kids it is. -/
def UpIs (ks : List Int) (x y : Int) : Prop := (∃ p : Nat, y = p ∧ p < ks.length ∧ x ∈ ofNats (kidsI ks p)) ∨ (y = -1 ∧ ∀ p, p < ks.length → ¬ x ∈ ofNats (kidsI ks p))
def URet (W : World) (ks : List Int) (x : Int) (e : Ending) (w' : World) : Prop := ∃ y : Int, UpIs ks x y ∧ e = .returned (.int .i64 y) ∧ Below W.heap.size W w'
end Go.Proofs.Ytlalnmefppbebaa
