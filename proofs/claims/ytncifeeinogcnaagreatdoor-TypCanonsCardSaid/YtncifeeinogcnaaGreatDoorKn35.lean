/- Texts of this seat, one behind the other: TuW, LwC, TcW, TtW. -/
import Derived.Test.YtncifeeinogcnaaGreatDoorKn34
import Derived.Test.YtncifeeinogcnaaGreatDoorKn25
/- The law's walk: which one is the first doesn't matter. -/
set_option maxRecDepth 100000
namespace Go.Proofs.YtncifeeinogcnaaGreatDoor
open Go.RowKit Go.Lib Go.Maps Go.Proofs.TreeMath

def RBt (w : World) (e : Ending) (w' : World) : Prop := e = .returned (.bool true) ∧ Below w.heap.size w w'
theorem nodes_form {w : World} {v : Value} {l : List Nd} (h : NodesAt w v l) : ∃ q c, v = .slice q l.length c := by obtain ⟨_, q, c, e, _⟩ := h; exact ⟨q, c, e⟩
theorem UyOut.len {la lb : List Nd} {c : Int} {l : List (Int × List Nd)} (h : UyOut la lb c l) : l.length ≤ 8000 ∧ (∀ p ∈ l, p.2.length ≤ 4000 ∧ 0 ≤ p.1 ∧ p.1 ≤ 1048576) ∧ (c ≠ 0 → l = []) := by
  cases h with
  | form hb hc hl => exact ⟨by rw [hl]; simp, fun p hp => by rw [hl] at hp; simp at hp, fun _ => hl⟩
  | clash ta tb na nb ka kb ea eb oa ob hn hc hl => exact ⟨by rw [hl]; simp, fun p hp => by rw [hl] at hp; simp at hp, fun _ => hl⟩
  | great ta tb na nb ka kb ea eb oa ob s hs v hv hc hl => exact ⟨by rw [hl]; simp, fun p hp => by rw [hl] at hp; simp at hp, fun _ => hl⟩
  | ok ta tb na nb ka kb ea eb oa ob s hs ks hp hk kr hz hn hc hl =>
    refine ⟨by rw [hl]; exact Nat.le_trans (binds_len s ks) hn, fun p hm => ?_, fun h => absurd hc h⟩
    rw [hl] at hm
    obtain ⟨h1, _, h3⟩ := binds_mem s ks p hm
    exact ⟨by rw [h3, flatT_length]; exact hz _, kr _ h1⟩
set_option maxHeartbeats 1000000 in
theorem turned_walk (va vb : Value) (a b : List Nd) (w : World) (ha : NodesAt w va a) (hb : NodesAt w vb b) (HT : TabW w) : Calls Tryz.prog 5 #[va, vb] w (RBt w) := by
  have AW := Lib.hid (fun w' (h : Below w.heap.size w w') => awake_any w' (fun w'' h2 => HT w'' (h.trans (h2.mono h.size))))
  have E : Hid (∀ w', Below w.heap.size w w' → RBt w (.returned (.bool true)) w') := Lib.hid fun w' h => ⟨rfl, h⟩
  have FA := Lib.hid (fun w' (h : Below w.heap.size w w') => few_any va a w' (ha.below h))
  have FB := Lib.hid (fun w' (h : Below w.heap.size w w') => few_any vb b w' (hb.below h))
  have HA := Lib.hid ha
  have HB := Lib.hid hb
  clear HT ha hb
  generalize hZ : RBt w = Z at *
  clear hZ
  cases fa : fewB a with
  | false =>
    rw [fa] at FA
    go_enter Tryz.func5, Tryz.ntmps5
    go_wp2_with fail
    refine (AW.out w (Below.refl _ _)).mono ?_
    rintro e w1 ⟨_, rfl, rfl, b1⟩
    have B1 := Lib.hid b1
    clear b1
    go_wp2_with fail
    refine (FA.out w1 B1.out).mono ?_
    rintro e w2 ⟨rfl, rfl⟩
    go_wp2_with fail
    refine (AW.out w1 B1.out).mono ?_
    rintro e w3 ⟨_, rfl, rfl, b3⟩
    have B3 := Lib.hid (E.out _ (B1.out.trans (b3.mono B1.out.size)))
    clear b3
    go_wp2
    first | go_ret | skip
    exact B3.out
  | true =>
    obtain ⟨la60, sa⟩ := fewB_small fa
    rw [fa] at FA
    cases fb : fewB b with
    | false =>
      rw [fb] at FB
      clear la60 sa
      go_enter Tryz.func5, Tryz.ntmps5
      go_wp2_with fail
      refine (AW.out w (Below.refl _ _)).mono ?_
      rintro e w1 ⟨_, rfl, rfl, b1⟩
      have B1 := Lib.hid b1
      clear b1
      go_wp2_with fail
      refine (FA.out w1 B1.out).mono ?_
      rintro e w2 ⟨rfl, rfl⟩
      go_wp2_with fail
      refine (FB.out w1 B1.out).mono ?_
      rintro e w2 ⟨rfl, rfl⟩
      go_wp2_with fail
      refine (AW.out w1 B1.out).mono ?_
      rintro e w3 ⟨_, rfl, rfl, b3⟩
      have B3 := Lib.hid (E.out _ (B1.out.trans (b3.mono B1.out.size)))
      clear b3
      go_wp2
      first | go_ret | skip
      exact B3.out
    | true =>
      obtain ⟨lb60, sb⟩ := fewB_small fb
      rw [fb] at FB
      have SA := Lib.hid (And.intro la60 sa)
      have SB := Lib.hid (And.intro lb60 sb)
      have OA := Lib.hid (fun w' (h : Below w.heap.size w w') => own_any va a w' (HA.out.below h) (by omega))
      have OB := Lib.hid (fun w' (h : Below w.heap.size w w') => own_any vb b w' (HB.out.below h) (by omega))
      clear la60 lb60 sa sb fa fb HA HB
      go_enter Tryz.func5, Tryz.ntmps5
      go_wp2_with fail
      refine (AW.out w (Below.refl _ _)).mono ?_
      rintro e w1 ⟨_, rfl, rfl, b1⟩
      have B1 := Lib.hid b1
      clear b1 AW
      go_wp2_with fail
      refine (FA.out w1 B1.out).mono ?_
      rintro e w2 ⟨rfl, rfl⟩
      go_wp2_with fail
      refine (FB.out w1 B1.out).mono ?_
      rintro e w2 ⟨rfl, rfl⟩
      go_wp2_with fail
      refine (OA.out w1 B1.out).mono ?_
      rintro e w2 ⟨v2, rfl, h2, b2⟩
      have B2 := Lib.hid (B1.out.trans (b2.mono B1.out.size))
      have V2 := Lib.hid h2
      clear b2 h2 FA FB
      go_wp2_with fail
      refine (OB.out w2 B2.out).mono ?_
      rintro e w3 ⟨v3, rfl, h3, b3⟩
      have B3 := Lib.hid (B2.out.trans (b3.mono B2.out.size))
      have U1 := Lib.hid (uy_out v2 v3 a b w3 (V2.out.below b3) h3 (by have := SA.out.1; omega) (by have := SB.out.1; omega) SA.out.2 SB.out.2)
      clear b3 h3 V2
      go_wp2_with fail
      refine U1.out.mono ?_
      rintro e w4 ⟨c4, bs, lv, rfl, o4, g4, b4⟩
      have B4 := Lib.hid (B3.out.trans (b4.mono B3.out.size))
      have O4 := Lib.hid o4
      have G4 := Lib.hid g4
      clear o4 g4 b4 U1
      go_wp2_with fail
      refine (OB.out w4 B4.out).mono ?_
      rintro e w5 ⟨v5, rfl, h5, b5⟩
      have B5 := Lib.hid (B4.out.trans (b5.mono B4.out.size))
      have X5 := Lib.hid b5
      have V5 := Lib.hid h5
      clear b5 h5
      go_wp2_with fail
      refine (OA.out w5 B5.out).mono ?_
      rintro e w6 ⟨v6, rfl, h6, b6⟩
      have B6 := Lib.hid (B5.out.trans (b6.mono B5.out.size))
      have X6 := Lib.hid (X5.out.trans (b6.mono X5.out.size))
      have U2 := Lib.hid (uy_out v5 v6 b a w6 (V5.out.below b6) h6 (by have := SB.out.1; omega) (by have := SA.out.1; omega) SB.out.2 SA.out.2)
      clear b6 h6 V5 X5
      go_wp2_with fail
      refine U2.out.mono ?_
      rintro e w7 ⟨c7, cs, mv, rfl, o7, g7, b7⟩
      obtain ⟨ec, el⟩ := O4.out.turn.det o7
      have B7 := Lib.hid (B6.out.trans (b7.mono B6.out.size))
      have X7 := Lib.hid (X6.out.trans (b7.mono X6.out.size))
      have LN := Lib.hid O4.out.len
      have G7 : BG w3.heap.size bs lv w7 := G4.out.keep fun g cur T hg hh _ => X7.out.block g (Array.getElem?_eq_some_iff.1 hh).1
      have hbl : bs.length ≤ 1000000 := by have := LN.out.1; simp only [prs, List.length_map] at this; omega
      have BS := Lib.hid (bsame_any _ _ bs cs lv mv w7 G7 g7 (fun b hb => (LN.out.2.1 (b.1, b.2.1) (by unfold prs; exact List.mem_map.2 ⟨b, hb, rfl⟩)).1) hbl)
      rw [decide_eq_true el] at BS
      subst ec
      clear o7 g7 b7 U2 el G7 LN hbl O4 G4
      go_wp2_with fail
      refine BS.out.mono ?_
      rintro e w8 ⟨_, rfl, rfl, b8⟩
      have B8 := Lib.hid (E.out _ (B7.out.trans (b8.mono B7.out.size)))
      clear b8
      go_wp2
      first | go_ret | skip
      exact B8.out
end Go.Proofs.YtncifeeinogcnaaGreatDoor
/- The laws' mathematics: variables from 0 on. -/
set_option maxRecDepth 100000
namespace Go.Proofs.YtncifeeinogcnaaGreatDoor
open Go.Proofs.TreeMath

theorem foldl_ren (f : Int → Int) (M : List Int) (hinj : ∀ x ∈ M, ∀ y ∈ M, f x = f y → x = y) : ∀ (t : List Nd) (acc : List Int), (∀ x ∈ acc, x ∈ M) → (∀ n ∈ t, n.kind = 31 → n.num ∈ M) → (t.map fun n => if n.kind = 31 then { n with num := f n.num } else n).foldl vstep (acc.map f) = (t.foldl vstep acc).map f := by
  intro t
  induction t with
  | nil => intro acc _ _; rfl
  | cons n t ih =>
    intro acc ha ht
    rw [List.map_cons, List.foldl_cons, List.foldl_cons]
    have e : vstep (acc.map f) (if n.kind = 31 then { n with num := f n.num } else n) = (vstep acc n).map f := by
      unfold vstep
      by_cases hk : n.kind = 31
      · rw [if_pos hk]
        have hm := ht n List.mem_cons_self hk
        have h2 : f n.num ∈ acc.map f ↔ n.num ∈ acc := by
          rw [List.mem_map]
          constructor
          · rintro ⟨x, hx, e⟩
            rw [← hinj x (ha x hx) _ hm e]; exact hx
          · exact fun h => ⟨_, h, rfl⟩
        by_cases hq : n.num ∈ acc
        · rw [if_neg (fun h => h.2 (h2.2 hq)), if_neg (fun h => h.2 hq)]
        · rw [if_pos ⟨hk, fun h => hq (h2.1 h)⟩, if_pos ⟨hk, hq⟩, List.map_append]; rfl
      · rw [if_neg hk, if_neg (fun h => hk h.1), if_neg (fun h => hk h.1)]
    rw [e]
    refine ih _ (fun x hx => ?_) fun m hm => ht m (List.mem_cons_of_mem _ hm)
    unfold vstep at hx
    split at hx
    · rename_i h
      rcases List.mem_append.1 hx with hx | hx
      · exact ha x hx
      · rw [List.mem_singleton] at hx; subst hx; exact ht n List.mem_cons_self h.1
    · exact ha x hx
theorem varsN_nodup (t : List Nd) : (varsN t).Nodup := by
  have : ∀ (t : List Nd) (acc : List Int), acc.Nodup → (t.foldl vstep acc).Nodup := by
    intro t
    induction t with
    | nil => intro acc h; exact h
    | cons n t ih =>
      intro acc h
      refine ih _ ?_
      unfold vstep
      split
      · rename_i h2
        rw [List.nodup_append]
        refine ⟨h, by simp, fun a ha b hb => ?_⟩
        rw [List.mem_singleton] at hb
        subst hb
        intro e
        subst e
        exact h2.2 ha
      · exact h
  exact this t [] (by simp)
theorem place_at (vs : List Int) (hd : vs.Nodup) (j : Nat) (hj : j < vs.length) : placeI vs (vs.getD j 0) = j := by
  refine idxOf_at hj rfl fun i hi e => ?_
  rw [List.getD_eq_getElem?_getD, List.getElem?_eq_getElem (by omega), List.getD_eq_getElem?_getD, List.getElem?_eq_getElem hj] at e
  have := (List.getElem_inj hd).1 (by simpa using e)
  omega
theorem place_inj (vs : List Int) : ∀ x ∈ vs, ∀ y ∈ vs, placeI vs x = placeI vs y → x = y := by
  intro x hx y hy e
  obtain ⟨i, h1, h2, h3⟩ := first_at vs x hx
  obtain ⟨j, k1, k2, k3⟩ := first_at vs y hy
  rw [idxOf_at h1 h2 h3, idxOf_at k1 k2 k3] at e
  have : i = j := by omega
  subst this
  exact h2.symm.trans k2
theorem vars_canon (t : List Nd) : varsN (canonN t) = (varsN t).map (placeI (varsN t)) := by
  have := foldl_ren (placeI (varsN t)) (varsN t) (place_inj _) t [] (fun x hx => by simp at hx) (fun n hn hk => varsN_mem t n hn hk)
  exact this
theorem vars_canon_len (t : List Nd) : (varsN (canonN t)).length = (varsN t).length := by rw [vars_canon, List.length_map]
theorem vars_canon_at (t : List Nd) (j : Nat) (hj : j < (varsN t).length) : (varsN (canonN t)).getD j 0 = (j : Int) := by
  rw [vars_canon, List.getD_eq_getElem?_getD, List.getElem?_map, List.getElem?_eq_getElem hj]
  have := place_at (varsN t) (varsN_nodup t) j hj
  rw [List.getD_eq_getElem?_getD, List.getElem?_eq_getElem hj] at this
  simpa using this
theorem canon_len (t : List Nd) : (canonN t).length = t.length := by simp [canonN]
theorem place_mem (t : List Nd) (n : Nd) (hn : n ∈ t) (hk : n.kind = 31) : ∃ j, j < (varsN t).length ∧ placeI (varsN t) n.num = (j : Int) := by
  obtain ⟨j, h1, h2, h3⟩ := first_at (varsN t) n.num (varsN_mem t n hn hk)
  exact ⟨j, h1, idxOf_at h1 h2 h3⟩
theorem canon_twice (t : List Nd) : canonN (canonN t) = canonN t := by
  have h : ∀ n ∈ t, canon1 (varsN (canonN t)) (canon1 (varsN t) n) = canon1 (varsN t) n := by
    intro n hn
    unfold canon1
    by_cases hk : n.kind = 31
    · simp only [if_pos hk]
      obtain ⟨j, hj, e⟩ := place_mem t n hn hk
      rw [e]
      have : placeI (varsN (canonN t)) (j : Int) = j := by
        refine idxOf_at (by rw [vars_canon_len]; exact hj) (vars_canon_at t j hj) fun i hi => ?_
        rw [vars_canon_at t i (by omega)]
        omega
      rw [this]
    · simp only [if_neg hk]
  have e : canonN (canonN t) = (canonN t).map (canon1 (varsN (canonN t))) := rfl
  rw [e]
  conv => lhs; arg 2; unfold canonN
  rw [List.map_map]
  exact List.map_congr_left h
theorem canon_type (t : List Nd) (h : tyB t = true) (hs : SmallN t) : tyB (canonN t) = true ∧ SmallN (canonN t) := by
  unfold tyB at h ⊢
  simp only [Bool.and_eq_true, decide_eq_true_eq, List.all_eq_true] at h ⊢
  obtain ⟨⟨h1, h2⟩, h3⟩ := h
  have hkk : kk (canonN t) = kk t := by
    unfold kk canonN
    rw [List.map_map]
    refine List.map_congr_left fun n _ => ?_
    show (canon1 _ n).kids = n.kids
    unfold canon1; split <;> rfl
  refine ⟨⟨⟨by rw [canon_len]; exact h1, by rw [hkk]; exact h2⟩, fun m hm => ?_⟩, fun m hm => ?_⟩
  · obtain ⟨n, hn, rfl⟩ := List.mem_map.1 hm
    have := h3 n hn
    unfold canon1
    by_cases hk : n.kind = 31
    · rw [if_pos hk]
      obtain ⟨j, hj, e⟩ := place_mem t n hn hk
      have hl := varsN_len t
      unfold rightN at this ⊢
      rw [if_pos hk] at this
      rw [if_pos hk, e]
      simp only [Bool.and_eq_true, decide_eq_true_eq] at this ⊢
      exact ⟨⟨⟨by omega, by omega⟩, this.1.2⟩, this.2⟩
    · rw [if_neg hk]; exact this
  · obtain ⟨n, hn, rfl⟩ := List.mem_map.1 hm
    have := hs n hn
    unfold canon1
    split <;> exact this
end Go.Proofs.YtncifeeinogcnaaGreatDoor
/- The law's walk: numbered from 0 on a type is the same, over and over. -/
set_option maxRecDepth 100000
namespace Go.Proofs.YtncifeeinogcnaaGreatDoor
open Go.RowKit Go.Lib Go.Maps Go.Proofs.TreeMath

theorem ints_form {w : World} {v : Value} {l : List Int} (h : IntsAt w v l) : ∃ q c, v = .slice q l.length c := by obtain ⟨_, q, c, e, _⟩ := h; exact ⟨q, c, e⟩
theorem canon_nodes (tv : Value) (t : List Nd) (w : World) (hns : NodesAt w tv t) (hl : t.length ≤ 1000000) (sm : SmallN t) (ht : tyB t = true) : Calls Tryz.prog 16 #[tv] w (NRet w (canonN t)) := by
  refine (canon_any tv t w hns hl sm).mono ?_
  rintro e w' ⟨lv, rfl, ho, b⟩
  rw [if_pos ht] at ho
  exact ⟨lv, rfl, SliceAt.of_owns ho, b⟩
theorem vars_ints (tv : Value) (t : List Nd) (w : World) (hns : NodesAt w tv t) (hl : t.length ≤ 1000000) (sm : SmallN t) (ht : tyB t = true) : Calls Tryz.prog 15 #[tv] w (KRet w (varsN t)) := by
  refine (vars_any tv t w hns hl sm).mono ?_
  rintro e w' ⟨lv, rfl, ho, b⟩
  rw [if_pos ht] at ho
  exact ⟨lv, rfl, SliceAt.of_owns ho, b⟩
set_option maxHeartbeats 1000000 in
theorem canons_walk (tv : Value) (t : List Nd) (w : World) (ha : NodesAt w tv t) (HT : TabW w) : Calls Tryz.prog 6 #[tv] w (RBt w) := by
  have AW := Lib.hid (fun w' (h : Below w.heap.size w w') => awake_any w' (fun w'' h2 => HT w'' (h.trans (h2.mono h.size))))
  have E : Hid (∀ w', Below w.heap.size w w' → RBt w (.returned (.bool true)) w') := Lib.hid fun w' h => ⟨rfl, h⟩
  have FA := Lib.hid (fun w' (h : Below w.heap.size w w') => few_any tv t w' (ha.below h))
  have HA := Lib.hid ha
  clear HT ha
  generalize hZ : RBt w = Z at *
  clear hZ
  cases fa : fewB t with
  | false =>
    rw [fa] at FA
    go_enter Tryz.func6, Tryz.ntmps6
    go_wp2_with fail
    refine (AW.out w (Below.refl _ _)).mono ?_
    rintro e w1 ⟨_, rfl, rfl, b1⟩
    have B1 := Lib.hid b1
    clear b1
    go_wp2_with fail
    refine (FA.out w1 B1.out).mono ?_
    rintro e w2 ⟨rfl, rfl⟩
    go_wp2_with fail
    refine (AW.out w1 B1.out).mono ?_
    rintro e w3 ⟨_, rfl, rfl, b3⟩
    have B3 := Lib.hid (E.out _ (B1.out.trans (b3.mono B1.out.size)))
    clear b3
    go_wp2
    first | go_ret | skip
    exact B3.out
  | true =>
    obtain ⟨la60, sa⟩ := fewB_small fa
    rw [fa] at FA
    have SA := Lib.hid (And.intro la60 sa)
    have OA := Lib.hid (fun w' (h : Below w.heap.size w w') => own_any tv t w' (HA.out.below h) (by omega))
    have CK := Lib.hid (fun v w' (h : NodesAt w' v t) => check_any v t w' h (by omega) sa)
    unfold CkP at CK
    obtain ⟨tq, tc, etv⟩ := nodes_form HA.out
    subst etv
    cases hty : tyB t with
    | false =>
      rw [hty] at CK
      clear la60 sa fa HA SA
      go_enter Tryz.func6, Tryz.ntmps6
      go_wp2_with fail
      refine (AW.out w (Below.refl _ _)).mono ?_
      rintro e w1 ⟨_, rfl, rfl, b1⟩
      have B1 := Lib.hid b1
      clear b1
      go_wp2_with fail
      refine (FA.out w1 B1.out).mono ?_
      rintro e w2 ⟨rfl, rfl⟩
      go_wp2_with fail
      refine (OA.out w1 B1.out).mono ?_
      rintro e w2 ⟨v2, rfl, h2, b2⟩
      have B2 := Lib.hid (B1.out.trans (b2.mono B1.out.size))
      have C2 := Lib.hid (CK.out v2 w2 h2)
      clear b2 h2 FA OA CK
      go_wp2_with fail
      refine C2.out.mono ?_
      rintro e w3 ⟨rfl, b3⟩
      have B3 := Lib.hid (B2.out.trans (b3.mono B2.out.size))
      clear b3 C2
      go_wp2_with fail
      refine (AW.out w3 B3.out).mono ?_
      rintro e w4 ⟨_, rfl, rfl, b4⟩
      have B4 := Lib.hid (E.out _ (B3.out.trans (b4.mono B3.out.size)))
      clear b4
      go_wp2
      first | go_ret | skip
      exact B4.out
    | true =>
      rw [hty] at CK
      obtain ⟨tc2, sc⟩ := canon_type t hty sa
      have HTY := Lib.hid (And.intro hty (And.intro tc2 sc))
      have hcl := canon_len t
      have hvl := vars_canon_len t
      have hvat := Lib.hid (vars_canon_at t)
      have htw := canon_twice t
      obtain ⟨n, hn⟩ : ∃ n, n = t.length := ⟨_, rfl⟩
      obtain ⟨k, hk⟩ : ∃ k, k = (varsN t).length := ⟨_, rfl⟩
      have hk60 : k ≤ 60 := by rw [hk]; have := varsN_len t; omega
      rw [← hn] at la60 hcl FA OA ⊢
      rw [← hk] at hvl
      have HCL := Lib.hid (And.intro hcl (And.intro hvl htw))
      have HNK := Lib.hid (And.intro hn hk)
      clear sa fa HA hty tc2 sc hcl hvl htw hn hk
      go_enter Tryz.func6, Tryz.ntmps6
      go_wp2_with fail
      refine (AW.out w (Below.refl _ _)).mono ?_
      rintro e w1 ⟨_, rfl, rfl, b1⟩
      have B1 := Lib.hid b1
      clear b1 AW
      go_wp2_with fail
      refine (FA.out w1 B1.out).mono ?_
      rintro e w2 ⟨rfl, rfl⟩
      go_wp2_with fail
      refine (OA.out w1 B1.out).mono ?_
      rintro e w2 ⟨v2, rfl, h2, b2⟩
      have B2 := Lib.hid (B1.out.trans (b2.mono B1.out.size))
      have C2 := Lib.hid (CK.out v2 w2 h2)
      clear b2 h2 FA CK
      go_wp2_with fail
      refine C2.out.mono ?_
      rintro e w3 ⟨rfl, b3⟩
      have B3 := Lib.hid (B2.out.trans (b3.mono B2.out.size))
      clear b3 C2
      go_wp2_with fail
      refine (OA.out w3 B3.out).mono ?_
      rintro e w4 ⟨v4, rfl, h4, b4⟩
      have B4 := Lib.hid (B3.out.trans (b4.mono B3.out.size))
      have C4 := Lib.hid (canon_nodes v4 t w4 h4 (by have := SA.out.1; omega) SA.out.2 HTY.out.1)
      clear b4 h4
      go_wp2_with fail
      refine C4.out.mono ?_
      rintro e w5 ⟨v5, rfl, h5, b5⟩
      obtain ⟨cq, cc, ecv⟩ := nodes_form h5
      rw [HCL.out.1] at ecv
      subst ecv
      have B5 := Lib.hid (B4.out.trans (b5.mono B4.out.size))
      have V5 := Lib.hid h5
      have OC := Lib.hid (fun w' (h : Below w5.heap.size w5 w') => own_any _ (canonN t) w' (V5.out.below h) (by rw [HCL.out.1]; omega))
      clear b5 h5 C4
      go_wp2_with fail
      refine (OC.out w5 (Below.refl _ _)).mono ?_
      rintro e w6 ⟨v6, rfl, h6, b6⟩
      have X6 := Lib.hid b6
      have C6 := Lib.hid (vars_ints v6 (canonN t) w6 h6 (by rw [HCL.out.1]; omega) HTY.out.2.2 HTY.out.2.1)
      clear b6 h6
      go_wp2_with fail
      refine C6.out.mono ?_
      rintro e w7 ⟨v7, rfl, h7, b7⟩
      obtain ⟨vq, vc, evv⟩ := ints_form h7
      rw [HCL.out.2.1] at evv
      subst evv
      have X7 := Lib.hid (X6.out.trans (b7.mono X6.out.size))
      obtain ⟨_, _, _, e7, _, _, g7⟩ := h7
      simp only [Value.slice.injEq] at e7
      obtain ⟨rfl, _, rfl⟩ := e7
      have CE := Lib.hid g7
      rw [HCL.out.2.1] at CE
      clear b7 g7 C6 X6
      go_wp2
      go_loop [5] (fun i => ∃ j : Nat, j ≤ k ∧ i = .int .i64 j) (fun i => k - (intOf i).toNat)
      case atStart => exact ⟨0, Nat.zero_le _, rfl⟩
      case round =>
        obtain ⟨j, hj, rfl⟩ := hrel
        by_cases hlt : j < k
        · have t0 : decide ((j : Int) < (k : Int)) = true := by simpa using hlt
          obtain ⟨b, o, rfl, hb, hc⟩ := CE.out (by omega)
          have c0 := hc.int j (by rw [HCL.out.2.1]; exact hlt)
          rw [hvat.out j (by rw [← HNK.out.2]; exact hlt)] at c0
          clear hb hc
          go_wp2
          go_round
          case rel => exact ⟨j + 1, by omega, by go_num⟩
          case measure => simp [intOf]; omega
        · obtain rfl : j = k := by omega
          have t0 : decide ((j : Int) < (j : Int)) = false := by simp
          clear CE
          go_wp2_with fail
          refine (OC.out w7 X7.out).mono ?_
          rintro e w8 ⟨v8, rfl, h8, b8⟩
          have X8 := Lib.hid (X7.out.trans (b8.mono X7.out.size))
          have C8 := Lib.hid (canon_nodes v8 (canonN t) w8 h8 (by rw [HCL.out.1]; omega) HTY.out.2.2 HTY.out.2.1)
          clear b8 h8 OC
          go_wp2_with fail
          refine C8.out.mono ?_
          rintro e w9 ⟨v9, rfl, h9, b9⟩
          rw [HCL.out.2.2] at h9
          have X9 := Lib.hid (X8.out.trans (b9.mono X8.out.size))
          have S9 := Lib.hid (ex_same v9 _ (canonN t) w9 h9 (V5.out.below X9.out) (by rw [HCL.out.1]; omega))
          clear b9 h9 C8 X7 X8
          go_wp2_with fail
          refine S9.out.mono ?_
          rintro e w10 ⟨rfl, b10⟩
          have X10 := Lib.hid (X9.out.trans (b10.mono X9.out.size))
          clear b10 S9 X9
          go_wp2_with fail
          refine (OA.out w10 (B5.out.trans (X10.out.mono B5.out.size))).mono ?_
          rintro e w11 ⟨v11, rfl, h11, b11⟩
          have X11 := Lib.hid (X10.out.trans (b11.mono X10.out.size))
          have C11 := Lib.hid (vars_ints v11 t w11 h11 (by have := SA.out.1; omega) SA.out.2 HTY.out.1)
          clear b11 h11 X10
          go_wp2_with fail
          refine C11.out.mono ?_
          rintro e w12 ⟨v12, rfl, h12, b12⟩
          obtain ⟨xq, xc, rfl⟩ := ints_form h12
          rw [← HNK.out.2]
          have X12 := Lib.hid (X11.out.trans (b12.mono X11.out.size))
          have F := Lib.hid (E.out _ (B5.out.trans (X12.out.mono B5.out.size)))
          clear b12 h12 X11 C11
          go_wp2
          first | go_ret | skip
          exact F.out
end Go.Proofs.YtncifeeinogcnaaGreatDoor
/- The law's walk: whether nodes are a type, its text, its variables, and it from 0 on, are the document's. -/
set_option maxRecDepth 100000
namespace Go.Proofs.YtncifeeinogcnaaGreatDoor
open Go.RowKit Go.Lib Go.Maps Go.Proofs.TreeMath

theorem vars_none (tv : Value) (t : List Nd) (w : World) (hns : NodesAt w tv t) (hl : t.length ≤ 1000000) (sm : SmallN t) (ht : tyB t = false) : Calls Tryz.prog 15 #[tv] w fun e w' => ∃ q c, e = .returned (.slice q 0 c) ∧ Below w.heap.size w w' := by
  refine (vars_any tv t w hns hl sm).mono ?_
  rintro e w' ⟨lv, rfl, ho, b⟩
  rw [ht] at ho
  obtain ⟨q, c, rfl⟩ := row_form ho
  exact ⟨q, c, rfl, b⟩
theorem canon_none (tv : Value) (t : List Nd) (w : World) (hns : NodesAt w tv t) (hl : t.length ≤ 1000000) (sm : SmallN t) (ht : tyB t = false) : Calls Tryz.prog 16 #[tv] w fun e w' => ∃ q c, e = .returned (.slice q 0 c) ∧ Below w.heap.size w w' := by
  refine (canon_any tv t w hns hl sm).mono ?_
  rintro e w' ⟨lv, rfl, ho, b⟩
  rw [ht] at ho
  obtain ⟨q, c, rfl⟩ := row_form ho
  exact ⟨q, c, rfl, b⟩
set_option maxHeartbeats 1000000 in
theorem tells_walk (tv : Value) (t : List Nd) (w : World) (ha : NodesAt w tv t) (HT : TabW w) : Calls Tryz.prog 3 #[tv] w (RBt w) := by
  have AW := Lib.hid (fun w' (h : Below w.heap.size w w') => awake_any w' (fun w'' h2 => HT w'' (h.trans (h2.mono h.size))))
  have TB := Lib.hid (fun w' (h : Below w.heap.size w w') => (fun w'' h2 => HT w'' (h.trans (h2.mono h.size)) : TabW w'))
  have E : Hid (∀ w', Below w.heap.size w w' → RBt w (.returned (.bool true)) w') := Lib.hid fun w' h => ⟨rfl, h⟩
  have FA := Lib.hid (fun w' (h : Below w.heap.size w w') => few_any tv t w' (ha.below h))
  have HA := Lib.hid ha
  clear HT ha
  generalize hZ : RBt w = Z at *
  clear hZ
  cases fa : fewB t with
  | false =>
    rw [fa] at FA
    go_enter Tryz.func3, Tryz.ntmps3
    go_wp2_with fail
    refine (AW.out w (Below.refl _ _)).mono ?_
    rintro e w1 ⟨_, rfl, rfl, b1⟩
    have B1 := Lib.hid b1
    clear b1
    go_wp2_with fail
    refine (FA.out w1 B1.out).mono ?_
    rintro e w2 ⟨rfl, rfl⟩
    go_wp2_with fail
    refine (AW.out w1 B1.out).mono ?_
    rintro e w3 ⟨_, rfl, rfl, b3⟩
    have B3 := Lib.hid (E.out _ (B1.out.trans (b3.mono B1.out.size)))
    clear b3
    go_wp2
    first | go_ret | skip
    exact B3.out
  | true =>
    obtain ⟨la60, sa⟩ := fewB_small fa
    rw [fa] at FA
    have SA := Lib.hid (And.intro la60 sa)
    have OA := Lib.hid (fun w' (h : Below w.heap.size w w') => own_any tv t w' (HA.out.below h) (by omega))
    have RA := Lib.hid (fun w' (h : Below w.heap.size w w') => rtype_any tv t w' (HA.out.below h) (by omega) sa)
    have CK := Lib.hid (fun v w' (h : NodesAt w' v t) => check_any v t w' h (by omega) sa)
    unfold CkP at CK
    unfold RrP at RA
    cases hty : tyB t with
    | false =>
      rw [hty] at CK RA
      have HTY := Lib.hid hty
      clear la60 sa fa HA hty TB
      go_enter Tryz.func3, Tryz.ntmps3
      go_wp2_with fail
      refine (AW.out w (Below.refl _ _)).mono ?_
      rintro e w1 ⟨_, rfl, rfl, b1⟩
      have B1 := Lib.hid b1
      clear b1 AW
      go_wp2_with fail
      refine (FA.out w1 B1.out).mono ?_
      rintro e w2 ⟨rfl, rfl⟩
      go_wp2_with fail
      refine (OA.out w1 B1.out).mono ?_
      rintro e w2 ⟨v2, rfl, h2, b2⟩
      have B2 := Lib.hid (B1.out.trans (b2.mono B1.out.size))
      have C2 := Lib.hid (show_bad v2 t w2 h2 (by have := SA.out.1; omega) SA.out.2 HTY.out)
      unfold ShP at C2
      clear b2 h2 FA
      go_wp2_with fail
      refine C2.out.mono ?_
      rintro e w3 ⟨rfl, b3⟩
      have B3 := Lib.hid (B2.out.trans (b3.mono B2.out.size))
      clear b3 C2
      go_wp2_with fail
      refine (RA.out w3 B3.out).mono ?_
      rintro e w4 ⟨rfl, b4⟩
      have B4 := Lib.hid (B3.out.trans (b4.mono B3.out.size))
      clear b4 RA
      go_wp2_with fail
      refine (OA.out w4 B4.out).mono ?_
      rintro e w5 ⟨v5, rfl, h5, b5⟩
      have B5 := Lib.hid (B4.out.trans (b5.mono B4.out.size))
      have C5 := Lib.hid (CK.out v5 w5 h5)
      clear b5 h5 CK
      go_wp2_with fail
      refine C5.out.mono ?_
      rintro e w6 ⟨rfl, b6⟩
      have B6 := Lib.hid (B5.out.trans (b6.mono B5.out.size))
      clear b6 C5
      go_wp2_with fail
      refine (OA.out w6 B6.out).mono ?_
      rintro e w7 ⟨v7, rfl, h7, b7⟩
      have B7 := Lib.hid (B6.out.trans (b7.mono B6.out.size))
      have C7 := Lib.hid (vars_none v7 t w7 h7 (by have := SA.out.1; omega) SA.out.2 HTY.out)
      clear b7 h7
      go_wp2_with fail
      refine C7.out.mono ?_
      rintro e w8 ⟨q8, c8, rfl, b8⟩
      have B8 := Lib.hid (B7.out.trans (b8.mono B7.out.size))
      clear b8 C7
      go_wp2_with fail
      refine (OA.out w8 B8.out).mono ?_
      rintro e w9 ⟨v9, rfl, h9, b9⟩
      have B9 := Lib.hid (B8.out.trans (b9.mono B8.out.size))
      have C9 := Lib.hid (canon_none v9 t w9 h9 (by have := SA.out.1; omega) SA.out.2 HTY.out)
      clear b9 h9
      go_wp2_with fail
      refine C9.out.mono ?_
      rintro e w10 ⟨q10, c10, rfl, b10⟩
      have B10 := Lib.hid (E.out _ (B9.out.trans (b10.mono B9.out.size)))
      clear b10 C9
      go_wp2
      first | go_ret | skip
      exact B10.out
    | true =>
      rw [hty] at CK RA
      obtain ⟨n, k, et, ot, ok⟩ := ty_shape hty sa
      have h4 : (n :: k.flat).length ≤ 4000 := by rw [← et]; omega
      have SH := Lib.hid (fun v w' (hb : Below w.heap.size w w') (h : NodesAt w' v t) => show_good v n k w' (by rw [← et]; exact h) (by rw [← et]; exact sa) (by rw [← et]; exact hty) ot (TB.out w' hb))
      have RS := Lib.hid (fun w' (h : Below w.heap.size w w') => rshow_any tv n k w' (by rw [← et]; exact HA.out.below h) h4 ot ok)
      obtain ⟨S, hS⟩ : ∃ S : ByteArray, S = ⟨(shN n (shF k)).toArray⟩ := ⟨_, rfl⟩
      unfold ShP at SH
      unfold RSt at RS
      rw [← hS] at SH RS
      have VR := Lib.hid (fun w' (h : Below w.heap.size w w') => rvars_any tv t w' (HA.out.below h) (by omega))
      have CR := Lib.hid (fun w' (h : Below w.heap.size w w') => rcanon_any tv t w' (HA.out.below h) (by omega))
      unfold RvarsP at VR
      unfold RcanP at CR
      have HTY := Lib.hid hty
      clear la60 sa fa HA hty TB et ot ok h4 hS
      go_enter Tryz.func3, Tryz.ntmps3
      go_wp2_with fail
      refine (AW.out w (Below.refl _ _)).mono ?_
      rintro e w1 ⟨_, rfl, rfl, b1⟩
      have B1 := Lib.hid b1
      clear b1 AW
      go_wp2_with fail
      refine (FA.out w1 B1.out).mono ?_
      rintro e w2 ⟨rfl, rfl⟩
      go_wp2_with fail
      refine (OA.out w1 B1.out).mono ?_
      rintro e w2 ⟨v2, rfl, h2, b2⟩
      have B2 := Lib.hid (B1.out.trans (b2.mono B1.out.size))
      have C2 := Lib.hid (SH.out v2 w2 B2.out h2)
      clear b2 h2 FA SH
      go_wp2_with fail
      refine C2.out.mono ?_
      rintro e w3 ⟨rfl, b3⟩
      have B3 := Lib.hid (B2.out.trans (b3.mono B2.out.size))
      clear b3 C2
      go_wp2_with fail
      refine (RA.out w3 B3.out).mono ?_
      rintro e w4 ⟨rfl, b4⟩
      have B4 := Lib.hid (B3.out.trans (b4.mono B3.out.size))
      clear b4 RA
      go_wp2_with fail
      refine (RS.out w4 B4.out).mono ?_
      rintro e w5 ⟨rfl, b5⟩
      have B5 := Lib.hid (B4.out.trans (b5.mono B4.out.size))
      clear b5 RS
      go_wp2_with fail
      refine (OA.out w5 B5.out).mono ?_
      rintro e w6 ⟨v6, rfl, h6, b6⟩
      have B6 := Lib.hid (B5.out.trans (b6.mono B5.out.size))
      have C6 := Lib.hid (CK.out v6 w6 h6)
      clear b6 h6 CK
      go_wp2_with fail
      refine C6.out.mono ?_
      rintro e w7 ⟨rfl, b7⟩
      have B7 := Lib.hid (B6.out.trans (b7.mono B6.out.size))
      clear b7 C6
      go_wp2_with fail
      refine (OA.out w7 B7.out).mono ?_
      rintro e w8 ⟨v8, rfl, h8, b8⟩
      have B8 := Lib.hid (B7.out.trans (b8.mono B7.out.size))
      have C8 := Lib.hid (vars_ints v8 t w8 h8 (by have := SA.out.1; omega) SA.out.2 HTY.out)
      clear b8 h8
      go_wp2_with fail
      refine C8.out.mono ?_
      rintro e w9 ⟨v9, rfl, h9, b9⟩
      have B9 := Lib.hid (B8.out.trans (b9.mono B8.out.size))
      have V9 := Lib.hid h9
      clear b9 h9 C8
      go_wp2_with fail
      refine (VR.out w9 B9.out).mono ?_
      rintro e w10 ⟨v10, rfl, ho, b10⟩
      have B10 := Lib.hid (B9.out.trans (b10.mono B9.out.size))
      have R10 := Lib.hid (ex_row v9 v10 (varsN t) w10 (V9.out.below b10) (SliceAt.of_owns ho) (by have := varsN_len t; have := SA.out.1; omega))
      clear b10 ho VR V9
      go_wp2_with fail
      refine R10.out.mono ?_
      rintro e w11 ⟨rfl, b11⟩
      have B11 := Lib.hid (B10.out.trans (b11.mono B10.out.size))
      clear b11 R10
      go_wp2_with fail
      refine (OA.out w11 B11.out).mono ?_
      rintro e w12 ⟨v12, rfl, h12, b12⟩
      have B12 := Lib.hid (B11.out.trans (b12.mono B11.out.size))
      have C12 := Lib.hid (canon_nodes v12 t w12 h12 (by have := SA.out.1; omega) SA.out.2 HTY.out)
      clear b12 h12
      go_wp2_with fail
      refine C12.out.mono ?_
      rintro e w13 ⟨v13, rfl, h13, b13⟩
      have B13 := Lib.hid (B12.out.trans (b13.mono B12.out.size))
      have V13 := Lib.hid h13
      clear b13 h13 C12
      go_wp2_with fail
      refine (CR.out w13 B13.out).mono ?_
      rintro e w14 ⟨v14, rfl, ho, b14⟩
      have B14 := Lib.hid (B13.out.trans (b14.mono B13.out.size))
      have R14 := Lib.hid (ex_same v13 v14 (canonN t) w14 (V13.out.below b14) (SliceAt.of_owns ho) (by rw [canon_len]; have := SA.out.1; omega))
      clear b14 ho CR V13
      go_wp2_with fail
      refine R14.out.mono ?_
      rintro e w15 ⟨rfl, b15⟩
      have B15 := Lib.hid (E.out _ (B14.out.trans (b15.mono B14.out.size)))
      clear b15 R14
      go_wp2
      first | go_ret | skip
      exact B15.out
end Go.Proofs.YtncifeeinogcnaaGreatDoor
