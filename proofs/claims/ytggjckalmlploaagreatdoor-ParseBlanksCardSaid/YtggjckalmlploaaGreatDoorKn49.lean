/- Texts of this seat, one behind the other: ParBl, ParCm. -/
import Derived.Test.YtggjckalmlploaaGreatDoorKn48
/- The walk of ParseBlanks. -/
set_option maxRecDepth 100000
namespace Go.Proofs.YtggjckalmlploaaGreatDoor
open Go.Shelf Go.RowKit Go.Lib Go.Proofs.TreeMath Go.Proofs.LexMath Go.Proofs.FixMath Go.Proofs.ParMath
theorem chk_val (R : Fx → Bool) (l : List Fx) : checkL R l = 0 ∨ checkL R l = 40 ∨ checkL R l = 41 := by
  unfold checkL
  repeat' split
  all_goals simp
theorem choose_eq {A B : List Nd} (h : A = B) : Classical.choose (check_ex A 0) = Classical.choose (check_ex B 0) := by subst h; rfl
def Plain (e : Int) : Prop := e = 0 ∨ e = 74 ∨ e = 40 ∨ e = 41
theorem prs_sh {s s2 : ByteArray} {fs : List Fx} {m : Nat} (h : s2.data.toList = List.replicate m 32 ++ s.data.toList) :
    (Plain (prs s fs).2.2 → prs s2 fs = prs s fs) ∧ (¬ Plain (prs s fs).2.2 → (prs s2 fs).2.2 = (prs s fs).2.2 ∧ (prs s2 fs).2.1 = (prs s fs).2.1 + m ∧ (prs s2 fs).1 = []) := by
  have hl2 : lex s2.data.toList = shR m (lex s.data.toList) := by rw [h, lex_ahead]
  have hsz : (s2.size : Int) = s.size + m := by
    have h1 : s2.data.toList.length = s2.size := rfl
    have h2 : s.data.toList.length = s.size := rfl
    rw [h, List.length_append, List.length_replicate] at h1
    omega
  unfold prs parseR
  by_cases hc : checkL Lx.rightF fs = 0
  · rw [if_pos hc, if_pos hc, hl2]
    cases hl : lex s.data.toList with
    | err c p =>
      have hb := lex_err hl
      simp only [shR]
      refine ⟨fun h => ?_, fun _ => ⟨trivial, by push_cast; rfl, trivial⟩⟩
      rcases h with h | h | h | h <;> omega
    | ok ts =>
      simp only [shR]
      have hcfg : cfg s2 fs = ⟨(cfg s fs).fin + m, (cfg s fs).fs, (cfg s fs).climb⟩ := by unfold cfg; rw [hsz]
      obtain ⟨t1, t2, t3⟩ := topS_sh (cfg s fs) m ts
      rw [← hcfg] at t1 t2 t3
      have hx : prsX s2 fs = prsX s fs := by
        unfold prsX
        rw [hl2, hl]
        simp only [shR]
        exact choose_eq t1
      rw [hx]
      unfold tokensR
      rw [t1, t2]
      have hec := top_ec (cfg s fs) ts
      by_cases h0 : (topS (cfg s fs) ts).e = 0
      · rw [if_pos h0, if_pos h0]
        refine ⟨fun _ => rfl, fun hn => ?_⟩
        exfalso
        apply hn
        unfold Plain
        split
        · exact .inl rfl
        · exact .inr (.inl rfl)
      · rw [if_neg h0, if_neg h0]
        refine ⟨fun hp => ?_, fun _ => ⟨rfl, t3 h0, rfl⟩⟩
        exfalso
        unfold Plain at hp
        rcases hec with h1 | h1
        · exact h0 h1
        · simp only at hp; omega
  · rw [if_neg hc, if_neg hc]
    refine ⟨fun _ => rfl, fun hn => ?_⟩
    exfalso
    apply hn
    rcases chk_val Lx.rightF fs with h | h | h
    · exact absurd h hc
    · exact .inr (.inr (.inl h))
    · exact .inr (.inr (.inr h))
theorem blanks_more {b : ByteArray} {j : Nat} (h : b.data.toList = List.replicate j 32) : (b ++ (⟨#[32]⟩ : ByteArray)).data.toList = List.replicate (j + 1) 32 := by
  rw [List.replicate_succ']
  simp [ByteArray.data_append, h]
theorem bytes_app (a b : ByteArray) : (a ++ b).data.toList = a.data.toList ++ b.data.toList := by simp [ByteArray.data_append]
theorem bytes_size {b : ByteArray} {j : Nat} {x : UInt8} (h : b.data.toList = List.replicate j x) : b.size = j := by
  have h1 : b.data.toList.length = b.size := rfl
  rw [h, List.length_replicate] at h1
  exact h1.symm
theorem u8_ok {a : Int} (h : (Lit.int .u8 a).wf = true) : 0 ≤ a ∧ a ≤ 255 := by
  unfold Lit.wf at h
  simp only [Bool.and_eq_true, decide_eq_true_eq] at h
  exact ⟨h.1, h.2⟩
set_option maxHeartbeats 4000000 in
theorem blanks_walk (s : ByteArray) (a : Int) (v : Value) (fs : List Fx) (w : World) (h : Lx.FixAt w v fs) (ha : 0 ≤ a ∧ a ≤ 255) (ht : Tab w) : Calls Tryz.prog 4 #[.string s, .int .u8 a, v] w (RB true w) := by
  obtain ⟨q, c, rfl⟩ := Lx.fix_form h
  have HFX := Lib.hid h
  have HT := Lib.hid ht
  clear h ht
  by_cases h6 : 500 < s.size
  · have d1 : decide ((500 : Int) < (s.size : Int)) = true := by simp; omega
    clear h6
    go_enter Tryz.func4, Tryz.ntmps4
    go_wp2_with fail
    refine (awake_any w HT.out).mono ?_
    rintro e w1 ⟨rfl, b1⟩
    have B1 := Lib.hid b1
    have T1 := Lib.hid (HT.out.below b1)
    clear b1
    go_wp2_with fail
    refine (awake_any w1 T1.out).mono ?_
    rintro e w2 ⟨rfl, b2⟩
    have B2 := Lib.hid (B1.out.trans (b2.mono B1.out.size))
    clear b2
    go_wp2_with fail
    go_ret
    exact ⟨rfl, B2.out⟩
  · have d1 : decide ((500 : Int) < (s.size : Int)) = false := by simp; omega
    cases hfw : Lx.fewB fs with
    | false =>
      clear h6
      go_enter Tryz.func4, Tryz.ntmps4
      go_wp2_with fail
      refine (awake_any w HT.out).mono ?_
      rintro e w1 ⟨rfl, b1⟩
      have B1 := Lib.hid b1
      have T1 := Lib.hid (HT.out.below b1)
      have FW := Lx.few_any _ fs w1 (Lx.SliceAt.below HFX.out b1)
      rw [hfw] at FW
      have FW := Lib.hid FW
      clear b1 hfw
      go_wp2_with fail
      refine FW.out.mono ?_
      rintro e w1' ⟨rfl, rfl⟩
      go_wp2_with fail
      refine (awake_any w1 T1.out).mono ?_
      rintro e w2 ⟨rfl, b2⟩
      have B2 := Lib.hid (B1.out.trans (b2.mono B1.out.size))
      clear b2
      go_wp2_with fail
      go_ret
      exact ⟨rfl, B2.out⟩
    | true =>
      have hfl := few_sm hfw
      have HFL := Lib.hid hfl
      have hs5 : s.size ≤ 500 := by omega
      have PB := Lib.hid (prs_bad (s := s) (fs := fs) (by omega))
      have PG := Lib.hid (prs_nodes (s := s) (fs := fs) (by omega))
      have SH := Lib.hid (fun s2 m => @prs_sh s s2 fs m)
      obtain ⟨R, hR⟩ : ∃ R, R = prs s fs := ⟨_, rfl⟩
      rw [← hR] at PG PB SH
      have KP : Hid (∀ fv W, Lx.FixAt W fv fs → Tab W → Calls Tryz.prog 8 #[.string s, fv] W (R3 R W)) := Lib.hid fun fv W h1 h2 => by rw [hR]; exact prs_any s fv fs W h1 hfl.1 hfl.2 (by omega) h2
      have KP2 : Hid (∀ s2 fv W, s2.size ≤ 700 → Lx.FixAt W fv fs → Tab W → Calls Tryz.prog 8 #[.string s2, fv] W (R3 (prs s2 fs) W)) := Lib.hid fun s2 fv W h0 h1 h2 => prs_any s2 fv fs W h1 hfl.1 hfl.2 h0 h2
      obtain ⟨rn, ra, re⟩ := R
      simp only at PG PB SH
      obtain ⟨n, rfl⟩ : ∃ n : Nat, a = (n : Int) := ⟨a.toNat, by omega⟩
      clear h6 hfl hR
      go_enter Tryz.func4, Tryz.ntmps4
      go_wp2_with fail
      refine (awake_any w HT.out).mono ?_
      rintro e w1 ⟨rfl, b1⟩
      have B1 := Lib.hid b1
      have T1 := Lib.hid (HT.out.below b1)
      have F1 := Lib.hid (Lx.SliceAt.below HFX.out b1)
      have FW := Lx.few_any _ fs w1 F1.out
      rw [hfw] at FW
      have FW := Lib.hid FW
      clear b1 hfw
      go_wp2_with fail
      refine FW.out.mono ?_
      rintro e w1' ⟨rfl, rfl⟩
      go_wp2_with fail
      refine (Lx.own_any _ fs w1 F1.out (by have := HFL.out.1; omega)).mono ?_
      rintro e w2 ⟨v2, rfl, hf2, b2⟩
      obtain ⟨q2, c2, rfl⟩ := Lx.fix_form hf2
      have B2 := Lib.hid (B1.out.trans (b2.mono B1.out.size))
      have T2 := Lib.hid (T1.out.below b2)
      have F2 := Lib.hid (Lx.SliceAt.below F1.out b2)
      have K := Lib.hid (KP.out _ w2 hf2 T2.out)
      clear b2 hf2
      go_wp2_with fail
      refine (show Calls _ _ _ _ _ from K.out).mono ?_
      rintro e w3 ⟨v3, rfl, hv3, b3⟩
      obtain ⟨q3, c3, rfl⟩ : ∃ q c, v3 = .slice q rn.length c := by obtain ⟨_, q, c, e, _⟩ := hv3; exact ⟨q, c, e⟩
      have V3 := Lib.hid hv3
      have B3 := Lib.hid (B2.out.trans (b3.mono B2.out.size))
      have T3 := Lib.hid (T2.out.below b3)
      have F3 := Lib.hid (Lx.SliceAt.below F2.out b3)
      clear hv3 b3
      simp only at V3 ⊢
      obtain ⟨m, hm⟩ : ∃ m, m = n % 20 := ⟨_, rfl⟩
      have hrem : (n : Int).tmod 20 = (m : Int) := by rw [hm]; exact (Int.ofNat_tmod n 20).symm
      have hm20 : m < 20 := by rw [hm]; exact Nat.mod_lt _ (by decide)
      have HM := Lib.hid hm
      clear hm
      go_wp2_with fail
      go_loopw [10, 11] (fun s10 s11 wr => ∃ (j : Nat) (b : ByteArray), j ≤ m ∧ s11 = .int .i64 j ∧ s10 = .string b ∧ b.data.toList = List.replicate j 32 ∧ wr = w3) (fun _ s11 _ => m - (RowKit.intOf s11).toNat)
      case atStart => exact ⟨0, ⟨#[]⟩, Nat.zero_le _, rfl, rfl, rfl, rfl⟩
      case round =>
        obtain ⟨j, b, hj, rfl, rfl, hb, rfl⟩ := hrel
        have HB := Lib.hid hb
        have hbs := bytes_size hb
        have hbz : b.size ≤ 19 := by omega
        have HBS := Lib.hid hbs
        clear hb hbs
        by_cases hlt : j < m
        · have hjz : (j : Int) < (m : Int) := by omega
          go_wp2_with fail
          go_roundw
          case rel => exact ⟨j + 1, _, by omega, by go_num, rfl, blanks_more HB.out, trivial⟩
          case measure => simp [RowKit.intOf]; omega
        · obtain rfl : j = m := by omega
          have hap : (b ++ s).data.toList = List.replicate j 32 ++ s.data.toList := by rw [bytes_app, HB.out]
          have hz2 : (b ++ s).size ≤ 700 := by
            have e := congrArg List.length hap
            rw [List.length_append, List.length_replicate] at e
            have e1 : (b ++ s).data.toList.length = (b ++ s).size := rfl
            have e2 : s.data.toList.length = s.size := rfl
            omega
          have hsh := SH.out (b ++ s) j hap
          obtain ⟨R2, hR2⟩ : ∃ R2, R2 = prs (b ++ s) fs := ⟨_, rfl⟩
          have KQ := fun fv W => KP2.out (b ++ s) fv W hz2
          rw [← hR2] at hsh KQ
          obtain ⟨rn2, ra2, re2⟩ := R2
          simp only at hsh KQ
          have HSH := Lib.hid hsh
          have KQ := Lib.hid KQ
          have hbj : (b.size : Int) = (j : Int) := by rw [HBS.out]
          have HBJ := Lib.hid hbj
          clear hap hz2 hsh hR2 hbj
          go_wp2_with fail
          refine (Lx.own_any _ fs wr F3.out (by have := HFL.out.1; omega)).mono ?_
          rintro e w4 ⟨v4, rfl, hf4, b4⟩
          obtain ⟨q4, c4, rfl⟩ := Lx.fix_form hf4
          have B4 := Lib.hid (B3.out.trans (b4.mono B3.out.size))
          have V4 := Lib.hid (V3.out.below b4)
          have K := Lib.hid (KQ.out _ w4 hf4 (T3.out.below b4))
          clear b4 hf4
          go_wp2_with fail
          refine (show Calls _ _ _ _ _ from K.out).mono ?_
          rintro e w5 ⟨v5, rfl, hv5, b5⟩
          obtain ⟨q5, c5, rfl⟩ : ∃ q c, v5 = .slice q rn2.length c := by obtain ⟨_, q, c, e, _⟩ := hv5; exact ⟨q, c, e⟩
          have B5 := Lib.hid (B4.out.trans (b5.mono B4.out.size))
          have V5 := Lib.hid (V4.out.below b5)
          have U5 := Lib.hid hv5
          clear hv5 b5
          simp only at U5 ⊢
          by_cases hp : Plain re
          · have e2 := HSH.out.1 hp
            simp only [Prod.mk.injEq] at e2
            obtain ⟨rfl, rfl, rfl⟩ := e2
            have hln : rn2.length ≤ 1000000 := by
              by_cases h0 : re2 = 0
              · have := (PG.out h0).2.1; omega
              · rw [(PB.out h0).1]; simp
            have SM := same_any _ _ rn2 rn2 w5 V5.out U5.out hln
            rw [show decide (rn2 = rn2) = true from decide_eq_true rfl] at SM
            have SM := Lib.hid SM
            clear hln
            rcases hp with rfl | rfl | rfl | rfl
            all_goals
              go_wp2_with fail
              refine (show Calls _ _ _ _ _ from SM.out).mono ?_
              rintro e w6 ⟨b', rfl, rfl, b6⟩
              have B6 := Lib.hid (B5.out.trans (b6.mono B5.out.size))
              clear b6
              go_wp2_with fail
              go_ret
              exact ⟨rfl, B6.out⟩
          · obtain ⟨e1, e2, e3⟩ := HSH.out.2 hp
            subst e1
            subst e3
            have n0 : (re2 == 0) = false := by rw [beq_eq_false_iff_ne]; exact fun h => hp (.inl h)
            have n1 : (re2 == 74) = false := by rw [beq_eq_false_iff_ne]; exact fun h => hp (.inr (.inl h))
            have n2 : (re2 == 40) = false := by rw [beq_eq_false_iff_ne]; exact fun h => hp (.inr (.inr (.inl h)))
            have n3 : (re2 == 41) = false := by rw [beq_eq_false_iff_ne]; exact fun h => hp (.inr (.inr (.inr h)))
            obtain ⟨p1, p2, p3⟩ := PB.out (fun h => hp (.inl h))
            have hsum : IntKind.i64.wrap (ra + (b.size : Int)) = ra2 := by rw [HBJ.out, e2]; exact IntWalk.i64_in _ (by omega)
            clear hp e2 p1 p2 p3
            go_wp2_with fail
            go_ret
            exact ⟨rfl, B5.out⟩
end Go.Proofs.YtggjckalmlploaaGreatDoor
/- The laws' mathematics: two in brackets. -/
set_option maxRecDepth 100000
namespace Go.Proofs.ParMath
open Go.Proofs.TreeMath Go.Proofs.LexMath Go.Proofs.FixMath Go.Proofs.YtggjckalmlploaaGreatDoor
theorem one_lp (r : Bs) : LexMath.one (40 :: r) = .tok 6 [40] 0 1 := by
  unfold LexMath.one
  dsimp only
  rw [if_neg (by decide), if_neg (by decide), if_neg (by decide), if_neg (by decide), if_pos (by decide)]
theorem one_rp (r : Bs) : LexMath.one (41 :: r) = .tok 6 [41] 0 1 := by
  unfold LexMath.one
  dsimp only
  rw [if_neg (by decide), if_neg (by decide), if_neg (by decide), if_neg (by decide), if_pos (by decide)]
theorem lex_lp (p n : Nat) (r : Bs) (hn : ¬ n = 4000) : lexAt p n (40 :: r) = (lexAt (p + 1) (n + 1) r).pre [⟨6, bs [40], 0, (p : Int)⟩] := lexAt_tok p n ⟨by decide, by decide⟩ (one_lp r) hn
theorem lex_rp (p n : Nat) (r : Bs) (hn : ¬ n = 4000) : lexAt p n (41 :: r) = (lexAt (p + 1) (n + 1) r).pre [⟨6, bs [41], 0, (p : Int)⟩] := lexAt_tok p n ⟨by decide, by decide⟩ (one_rp r) hn
theorem same_all {a b : List Tok} (h : sameL a b) : All2 coreT a b := by
  induction a generalizing b with
  | nil =>
    cases b with
    | nil => exact .nil
    | cons y b => simp [sameL] at h
  | cons x a ih =>
    cases b with
    | nil => simp [sameL] at h
    | cons y b =>
      simp only [sameL, List.map_cons, List.cons.injEq, Tok.core, Prod.mk.injEq] at h
      exact .cons h.1 (ih h.2)
theorem all_len {a b : List Tok} (h : All2 coreT a b) : b.length = a.length := by
  induction h with
  | nil => rfl
  | cons _ _ ih => simp [ih]
/-- A text's tokens at another place. -/
theorem lex_place {l : Bs} {ts : List Tok} (p n : Nat) (hl : n + l.length ≤ 4000) (h : lex l = .ok ts) : ∃ ms, lexAt p n l = .ok ms ∧ All2 coreT ts ms := by
  have := lex_shift 0 0 p n l (by omega) hl
  rw [show lexAt 0 0 l = .ok ts from h] at this
  cases hq : lexAt p n l with
  | ok ms => rw [hq] at this; exact ⟨ms, rfl, same_all this⟩
  | err e q => rw [hq] at this; exact this.elim
theorem lex_few {l : Bs} {ts : List Tok} (h : lex l = .ok ts) : ts.length ≤ l.length := by
  have := lex_line 0 0 l (by omega)
  rw [show lexAt 0 0 l = .ok ts from h] at this
  exact this.2.1
theorem lex_two {a b : Bs} {ta tb : List Tok} (ha : a.length ≤ 300) (hb : b.length ≤ 300) (h1 : lex a = .ok ta) (h2 : lex b = .ok tb) :
    ∃ lp rp lp2 rp2 ma mb, isLp lp ∧ isRp rp ∧ isLp lp2 ∧ isRp rp2 ∧ All2 coreT ta ma ∧ All2 coreT tb mb ∧ lex (40 :: (a ++ 10 :: 41 :: 40 :: (b ++ 10 :: [41]))) = .ok (lp :: (ma ++ rp :: lp2 :: (mb ++ [rp2]))) := by
  obtain ⟨ma, e1, s1⟩ := lex_place 1 1 (by omega) h1
  have l1 := all_len s1
  have l2 := lex_few h1
  obtain ⟨mb, e2, s2⟩ := lex_place (1 + a.length + 1 + 1 + 1) (1 + ma.length + 1 + 1) (by omega) h2
  have l3 := all_len s2
  have l4 := lex_few h2
  refine ⟨⟨6, bs [40], 0, 0⟩, ⟨6, bs [41], 0, ((1 + a.length + 1 : Nat) : Int)⟩, ⟨6, bs [40], 0, ((1 + a.length + 1 + 1 : Nat) : Int)⟩, ⟨6, bs [41], 0, ((1 + a.length + 1 + 1 + 1 + b.length + 1 : Nat) : Int)⟩, ma, mb, ⟨rfl, rfl⟩, ⟨rfl, rfl⟩, ⟨rfl, rfl⟩, ⟨rfl, rfl⟩, s1, s2, ?_⟩
  unfold lex
  rw [lex_lp 0 0 _ (by omega), lex_join, e1]
  simp only
  rw [lex_rp _ _ _ (by omega), lex_lp _ _ _ (by omega), lex_join, e2]
  simp only
  rw [lex_rp _ _ _ (by omega), lexAt_nil]
  simp [Res.pre]
/-- Where it all ends changes nothing but a place. -/
theorem rels_fin (C : Cfg) (fin : Int) : Rels C ⟨fin, C.fs, C.climb⟩ False (fun s s' => s'.rest = s.rest ∧ s'.e = s.e) (fun _ _ => True) where
  fs := rfl
  climb := rfl
  see := by rintro s s' ps ⟨h, _⟩ _; rw [h]
  tk := by
    rintro s s' p ⟨h, h2⟩ hp
    refine .inl ⟨by rw [h], fun hs => ⟨⟨?_, trivial⟩, by rw [h], h2⟩⟩
    rw [h]
    exact ⟨rfl, rfl, rfl⟩
  here := by intros; trivial
  fail := by
    rintro s s' x x' c hc ⟨h, h2⟩ _
    refine .inl ?_
    unfold St.fail
    rw [h2]
    split <;> exact ⟨rfl, rfl⟩
theorem fin_ep (C : Cfg) (fin : Int) (n : Nat) (s : St) : ((epM ⟨fin, C.fs, C.climb⟩ n).1 s).1 = ((epM C n).1 s).1 ∧ ((epM ⟨fin, C.fs, C.climb⟩ n).1 s).2.rest = ((epM C n).1 s).2.rest ∧ ((epM ⟨fin, C.fs, C.climb⟩ n).1 s).2.e = ((epM C n).1 s).2.e := by
  have H := rels_fin C fin
  have := (sim_ep H 0 (fun s s' hs => by
    have h1 := H.fail s s' (here C s) (here ⟨fin, C.fs, C.climb⟩ s') 73 (by decide) hs trivial
    rcases h1 with h1 | h1
    · exact ⟨.inl ⟨rfl, h1⟩, .inl ⟨rfl, h1⟩⟩
    · exact h1.1.elim) n s s ⟨rfl, rfl⟩).1
  rcases this with ⟨h1, h2, h3⟩ | h1
  · exact ⟨h1.symm, h2, h3⟩
  · exact h1.1.elim
theorem fin_top (C : Cfg) (fin : Int) (l : List Tok) : topN ⟨fin, C.fs, C.climb⟩ l = topN C l ∧ (topS ⟨fin, C.fs, C.climb⟩ l).e = (topS C l).e := by
  obtain ⟨h1, h2, h3⟩ := fin_ep C fin 100 (st0 l)
  refine ⟨h1, ?_⟩
  unfold topS
  rw [h2]
  split
  · exact h3
  · unfold St.fail
    rw [h3]
    split <;> rfl
end Go.Proofs.ParMath
namespace Go.Proofs.YtggjckalmlploaaGreatDoor
open Go.Shelf Go.RowKit Go.Lib Go.Proofs.TreeMath Go.Proofs.LexMath Go.Proofs.FixMath Go.Proofs.ParMath
theorem prs_two {s t u : ByteArray} {fs : List Fx} (hs : s.size ≤ 300) (ht : t.size ≤ 300) (h1 : (prs s fs).2.2 = 0) (h2 : (prs t fs).2.2 = 0) (hu : u.data.toList = 40 :: (s.data.toList ++ 10 :: 41 :: 40 :: (t.data.toList ++ 10 :: [41]))) :
    (prs u fs).2.2 = 73 ∨ (prs u fs).2.2 = 74 ∨ ((prs u fs).2.2 = 0 ∧ (prs u fs).1 = makeN ⟨6, ByteArray.empty, 0, 0⟩ [(prs s fs).1, (prs t fs).1]) := by
  obtain ⟨l1, a1, a2, a3, a4, _⟩ := prs_good (by omega) h1
  obtain ⟨l2, b1, _, b3, b4, _⟩ := prs_good (by omega) h2
  obtain ⟨lp, rp, lp2, rp2, m1, m2, i1, i2, i3, i4, c1, c2, hl⟩ := lex_two (show s.data.toList.length ≤ 300 from hs) (show t.data.toList.length ≤ 300 from ht) a1 b1
  rw [← hu] at hl
  have f2 := fin_top (cfg s fs) (t.size : Int) l2
  have ec : (⟨(t.size : Int), (cfg s fs).fs, (cfg s fs).climb⟩ : Cfg) = cfg t fs := rfl
  rw [ec] at f2
  have T := two_parens (cfg s fs) (u.size : Int) i1 i2 i3 i4 l1 m1 l2 m2 c1 c2 a4 (by rw [← f2.2]; exact b4)
  have eu : (⟨(u.size : Int), (cfg s fs).fs, (cfg s fs).climb⟩ : Cfg) = cfg u fs := rfl
  rw [eu] at T
  have hp : prs u fs = tokensR (cfg u fs) (lp :: (m1 ++ rp :: lp2 :: (m2 ++ [rp2]))) (prsX u fs) := by
    unfold prs parseR
    rw [if_pos a2, hl]
  rw [hp, a3, b3]
  unfold tokensR
  rcases T with ⟨t1, t2⟩ | t1
  · rw [if_pos t1]
    by_cases hx : prsX u fs = 0
    · rw [if_pos hx]
      right; right
      refine ⟨rfl, ?_⟩
      simp only
      rw [t2, f2.1]
    · rw [if_neg hx]; exact .inr (.inl rfl)
  · rw [if_neg (by rw [t1]; decide)]
    exact .inl t1
end Go.Proofs.YtggjckalmlploaaGreatDoor
