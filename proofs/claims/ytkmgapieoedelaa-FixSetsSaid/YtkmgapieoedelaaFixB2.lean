/- The contract of the document's bind. -/
import Derived.Test.YtkmgapieoedelaaFixJ
namespace Go.Proofs.FixMath
def firstV (fr : Int) (P : List (Nat × Int)) : Int := match P.head? with | some x => fr + x.1 | none => -1
def lastV (fr : Int) (P : List (Nat × Int)) : Int := match P.getLast? with | some x => fr + x.1 | none => -1
def leftN (P : List (Nat × Int)) : Nat := P.countP (fun x => decide (x.2 < 0))
def rightN (P : List (Nat × Int)) : Nat := P.countP (fun x => decide (0 < x.2))
theorem firstV_put {fr : Int} {P : List (Nat × Int)} {x : Nat × Int} (h0 : 0 ≤ fr) : firstV fr (P ++ [x]) = if firstV fr P < 0 then fr + x.1 else firstV fr P := by
  rcases P with _ | ⟨y, P⟩
  · rfl
  · have e1 : firstV fr (y :: P) = fr + y.1 := rfl
    have e2 : firstV fr (y :: P ++ [x]) = fr + y.1 := rfl
    rw [e1, e2, if_neg (by omega)]
theorem lastV_put {fr : Int} {P : List (Nat × Int)} {x : Nat × Int} : lastV fr (P ++ [x]) = fr + x.1 := by simp [lastV]
theorem leftN_put {P : List (Nat × Int)} {x : Nat × Int} : leftN (P ++ [x]) = leftN P + if x.2 < 0 then 1 else 0 := by
  unfold leftN
  rw [List.countP_append]
  by_cases h : x.2 < 0 <;> simp [h]
theorem rightN_put {P : List (Nat × Int)} {x : Nat × Int} : rightN (P ++ [x]) = rightN P + if 0 < x.2 then 1 else 0 := by
  unfold rightN
  rw [List.countP_append]
  by_cases h : 0 < x.2 <;> simp [h]
theorem leftN_le (P : List (Nat × Int)) : leftN P ≤ P.length := List.countP_le_length
theorem rightN_le (P : List (Nat × Int)) : rightN P ≤ P.length := List.countP_le_length
theorem low_put (p : List Fx) (j : Nat) (hj : j < p.length) : lowL (p.take (j + 1)) = min (lowL (p.take j)) (p.getD j default).level := by
  unfold lowL
  rw [List.take_succ_eq_append_getElem hj, List.foldl_append, List.getD_eq_getElem?_getD, List.getElem?_eq_getElem hj]
  rfl
theorem lows_put (low : Int) (p : List Fx) (j : Nat) (hj : j < p.length) : lows low 0 (p.take (j + 1)) = lows low 0 (p.take j) ++ if (p.getD j default).level = low then [(j, (p.getD j default).side)] else [] := by
  rw [List.take_succ_eq_append_getElem hj, lows_append, lows_one, List.length_take, show 0 + min j p.length = j by omega, List.getD_eq_getElem?_getD, List.getElem?_eq_getElem hj]
  rfl
theorem lows_le (low : Int) (p : List Fx) : ∀ i, (lows low i p).length ≤ p.length := by
  induction p with
  | nil => intro i; simp [lows]
  | cons f p ih =>
    intro i
    unfold lows
    have := ih (i + 1)
    split <;> simp <;> omega
theorem pick_last {P : List (Nat × Int)} (h : 1 < P.length) (h1 : leftN P = P.length) : pick P = (P.getLast?).map Prod.fst := by
  unfold pick
  rw [if_pos ⟨h, h1⟩]
theorem pick_none {P : List (Nat × Int)} (h : 1 < P.length) (h1 : ¬ leftN P = P.length) (h2 : ¬ rightN P = P.length) : pick P = none := by
  unfold pick
  rw [if_neg (fun e => h1 e.2), if_pos ⟨h, h2⟩]
theorem pick_first {P : List (Nat × Int)} (h : 1 < P.length → ¬ leftN P = P.length) (h2 : 1 < P.length → rightN P = P.length) : pick P = (P.head?).map Prod.fst := by
  unfold pick
  rw [if_neg (fun e => h e.1 e.2), if_neg (fun e => e.2 (h2 e.1))]
end Go.Proofs.FixMath
namespace Go.Proofs.Ytkmgapieoedelaa
open Go.Shelf Go.RowKit Go.Lib Go.Sort Go.Proofs.FixMath

/-- A function that returns a list of numbers, or that there is none. -/
def BRes (o : Option (List Int)) (W : World) (e : Ending) (w' : World) : Prop := Below W.heap.size W w' ∧ match o with
  | some c => ∃ v, e = .returned (.tuple #[v, .bool true]) ∧ IntsAt w' v c
  | none => e = .returned (.tuple #[.slice none 0 0, .bool false])
theorem BRes.none' {W w' : World} (h : Below W.heap.size W w') : BRes none W (.returned (.tuple #[.slice none 0 0, .bool false])) w' := ⟨h, rfl⟩
theorem BRes.form {o : Option (List Int)} {W w' : World} {e : Ending} (h : BRes o W e w') : ∃ p n k, e = .returned (.tuple #[.slice p n k, .bool o.isSome]) ∧ Below W.heap.size W w' ∧ ∀ c, o = some c → IntsAt w' (.slice p n k) c := by
  obtain ⟨h1, h2⟩ := h
  cases o with
  | none => exact ⟨none, 0, 0, h2, h1, fun c hc => by cases hc⟩
  | some c =>
    obtain ⟨v, he, hi⟩ := h2
    obtain ⟨p, k, rfl⟩ := ints_form hi
    exact ⟨p, _, k, he, h1, fun c' hc => by cases hc; exact hi⟩
/-- The contract at a part: from one place up to another one. -/
def BindAt (o : Option (List Int)) (fs : List Fx) (a b : Nat) : Prop := ∀ (w : World) (v : Value), FixAt w v fs → Calls Try.prog 36 #[v, .int .i64 a, .int .i64 b] w (BRes o w)
theorem rbind_nil (v : Value) (a : Nat) (w : World) (ha : a ≤ 1000000) : Calls Try.prog 36 #[v, .int .i64 a, .int .i64 a] w (BRes (some [-1 - (a : Int)]) w) := by
  go_enter Try.func36, Try.ntmps36
  go_wp2
  go_ret2
  refine ⟨(Below.refl _ _).alloc (Nat.le_refl _) _, _, rfl, ?_⟩
  exact SliceAt.of_owns (World.ownsRow_lit (base := 0) (e := 3) (size := 1) w #[.int .i64 (-1 - (a : Int))] 1 (Nat.zero_le _) (by unfold maxLen; omega) rfl)
theorem ints_src {w : World} {p : Option Addr} {n k : Nat} {x : List Int} (h : IntsAt w (.slice p n k) x) : x.length = n ∧ (n ≠ 0 → ∃ ad, p = some ad ∧ ∀ j u, (intCells x)[j]? = some u → w.cell? (ad.add j) = some u) := by
  obtain ⟨_, p', k', hv, _, _, hh⟩ := h
  simp only [Value.slice.injEq] at hv
  obtain ⟨rfl, rfl, rfl⟩ := hv
  refine ⟨rfl, fun h0 => ?_⟩
  obtain ⟨b, off, rfl, _, hc⟩ := hh h0
  exact ⟨_, rfl, hc.at⟩
set_option maxRecDepth 100000 in
set_option maxHeartbeats 4000000 in
theorem rbind_go (b off n c a m : Nat) (fs p : List Fx) (w : World) (o1 o2 : Nat → Option (List Int)) (hl : Hid (fs.length = n)) (hn : n ≤ 1000000) (hp : Hid (p = (fs.drop a).take (m - a))) (ham : a < m) (hmn : m ≤ n) (hnc : n ≤ c) (hcm : Hid (c ≤ maxLen)) (hb : b < w.heap.size) (hc : Hid (CellsIn w b off (fxCells fs))) (hf : Hid (∀ f ∈ p, fine f))
    (HL : Hid (∀ i, root p = some i → BindAt (o1 i) fs a (a + i) ∧ BindAt (o2 i) fs (a + i + 1) m)) (HLX : Hid (∀ i, root p = some i → (∀ x, o1 i = some x → x.length ≤ 1000000) ∧ ∀ y, o2 i = some y → y.length ≤ 1000000)) (R : Option (List Int)) (HN : Hid (root p = none → R = none)) (HR : Hid (∀ i, root p = some i → R = match o1 i, o2 i with | some x, some y => some (((a : Int) + i) :: (x ++ y)) | _, _ => none)) :
    Calls Try.prog 36 #[.slice (some ⟨b, off, none⟩) n c, .int .i64 a, .int .i64 m] w (BRes R w) := by
  obtain ⟨i0, hi, hz0, hz1, hz2⟩ := infoInt
  have HI := Lib.hid (And.intro hi (And.intro hz0 (And.intro hz1 hz2)))
  clear hi hz0 hz1 hz2
  have hpl : p.length = m - a := by rw [hp.out, List.length_take, List.length_drop, hl.out]; omega
  have PL := Lib.hid hpl
  have AT : Hid (∀ k, a ≤ k → k < m → w.cell? ⟨b, off + k * 3 + 1, none⟩ = some (.int .i64 (p.getD (k - a) default).level) ∧ w.cell? ⟨b, off + k * 3 + 2, none⟩ = some (.int .i64 (p.getD (k - a) default).side)) := Lib.hid fun k hk hkm => by
    have := hc.out.fx k (by rw [hl.out]; omega)
    have e : fs.getD k default = p.getD (k - a) default := by
      rw [hp.out, List.getD_eq_getElem?_getD, List.getD_eq_getElem?_getD, List.getElem?_take_of_lt (by omega), List.getElem?_drop, show a + (k - a) = k by omega]
    rw [e] at this
    exact ⟨this.2.1, this.2.2⟩
  have g0 : ((a : Int) == (m : Int)) = false := by simp; omega
  have HFA : Hid (FixAt w (.slice (some ⟨b, off, none⟩) n c) fs) := Lib.hid ⟨by rw [length_fxCells], _, c, by rw [hl.out], by rw [hl.out]; exact hnc, hcm.out, fun _ => ⟨b, off, rfl, hb, hc.out⟩⟩
  clear hpl
  go_enter Try.func36, Try.ntmps36
  go_wp2
  go_loop [8, 9] (fun s8 s9 => ∃ k : Nat, a ≤ k ∧ k ≤ m ∧ s9 = .int .i64 k ∧ s8 = .int .i64 (lowL (p.take (k - a)))) (fun _ s9 => m - (intOf s9).toNat)
  case atStart => exact ⟨a, Nat.le_refl _, by omega, rfl, by rw [Nat.sub_self]; rfl⟩
  case round =>
    obtain ⟨k, hak, hkm, rfl, rfl⟩ := hrel
    by_cases hlt : k < m
    · have C := (AT.out k hak hlt).1
      have LP := low_put p (k - a) (by rw [PL.out]; omega)
      have hlo := (lowL_le (p.take (k - a))).1
      obtain ⟨x, hx⟩ : ∃ x, x = (p.getD (k - a) default).level := ⟨_, rfl⟩
      obtain ⟨y, hy⟩ : ∃ y, y = lowL (p.take (k - a)) := ⟨_, rfl⟩
      rw [← hx, ← hy] at LP
      have HX := Lib.hid LP
      rw [← hx] at C
      rw [← hy]
      have s1 : (k : Int) < (m : Int) := by omega
      have s2 : (k : Int) < (n : Int) := by omega
      clear hx hy LP hlo
      go_wp2
      go_round
      case rel => exact ⟨k + 1, by omega, by omega, by go_num, by rw [show k + 1 - a = k - a + 1 by omega, HX.out]⟩
      case measure => simp [intOf]; omega
    · obtain rfl : k = m := by omega
      rw [List.take_of_length_le (by rw [PL.out]; exact Nat.le_refl _)]
      have PT := Lib.hid (lows_put (lowL p) p)
      obtain ⟨lo, hlo⟩ : ∃ lo, lo = lowL p := ⟨_, rfl⟩
      rw [← hlo] at PT ⊢
      have HLo := Lib.hid hlo
      clear hlo
      go_wp2
      go_loop [10, 11, 12, 13, 14, 15] (fun s10 s11 s12 s13 s14 s15 => ∃ k' : Nat, a ≤ k' ∧ k' ≤ k ∧ s15 = .int .i64 k' ∧ s10 = .int .i64 (firstV a (lows lo 0 (p.take (k' - a)))) ∧ s11 = .int .i64 (lastV a (lows lo 0 (p.take (k' - a)))) ∧ s12 = .int .i64 ((lows lo 0 (p.take (k' - a))).length) ∧ s13 = .int .i64 (leftN (lows lo 0 (p.take (k' - a)))) ∧ s14 = .int .i64 (rightN (lows lo 0 (p.take (k' - a))))) (fun _ _ _ _ _ s15 => k - (intOf s15).toNat)
      case atStart => exact ⟨a, Nat.le_refl _, by omega, rfl, by rw [Nat.sub_self]; rfl, by rw [Nat.sub_self]; rfl, by rw [Nat.sub_self]; rfl, by rw [Nat.sub_self]; rfl, by rw [Nat.sub_self]; rfl⟩
      case round =>
        obtain ⟨q, haq, hqk, rfl, rfl, rfl, rfl, rfl, rfl⟩ := hrel
        by_cases hlt2 : q < k
        · obtain ⟨C1, C2⟩ := AT.out q haq hlt2
          have LP := PT.out (q - a) (by rw [PL.out]; omega)
          obtain ⟨x, hx⟩ : ∃ x, x = (p.getD (q - a) default).level := ⟨_, rfl⟩
          obtain ⟨y, hy⟩ : ∃ y, y = (p.getD (q - a) default).side := ⟨_, rfl⟩
          rw [← hx, ← hy] at LP
          rw [← hx] at C1
          rw [← hy] at C2
          obtain ⟨P, hP⟩ : ∃ P, P = lows lo 0 (p.take (q - a)) := ⟨_, rfl⟩
          have hPl : P.length ≤ q - a := by
            rw [hP]
            have := lows_le lo (p.take (q - a)) 0
            rw [List.length_take] at this
            omega
          have hP2 := leftN_le P
          have hP3 := rightN_le P
          rw [← hP] at LP ⊢
          have s1 : (q : Int) < (k : Int) := by omega
          have s2 : (q : Int) < (n : Int) := by omega
          have NX : q + 1 - a = q - a + 1 := by omega
          have HNX := Lib.hid NX
          have HQ : Hid ((a : Int) + ((q - a : Nat) : Int) = q) := Lib.hid (by omega)
          clear hx hy hP NX
          by_cases g1 : x = lo
          · rw [if_pos g1] at LP
            have HLP := Lib.hid LP
            have FP := Lib.hid (firstV_put (fr := (a : Int)) (P := P) (x := (q - a, y)) (by omega))
            have LV := Lib.hid (lastV_put (fr := (a : Int)) (P := P) (x := (q - a, y)))
            have LN := Lib.hid (leftN_put (P := P) (x := (q - a, y)))
            have RN := Lib.hid (rightN_put (P := P) (x := (q - a, y)))
            have hl1 : (P ++ [(q - a, y)]).length = P.length + 1 := by simp
            have HL1 := Lib.hid hl1
            have g2 : (x == lo) = true := by simpa using g1
            have g3 : (x != lo) = false := by simp [g1]
            generalize firstV (a : Int) P = v1 at *
            generalize lastV (a : Int) P = v2 at *
            generalize leftN P = v3 at *
            generalize rightN P = v4 at *
            generalize P.length = v5 at *
            clear LP g1 hl1
            by_cases h1 : v1 < 0 <;> by_cases h2 : y < 0 <;> by_cases h3 : 0 < y
            all_goals (try (exfalso; omega))
            all_goals
              go_wp2
              go_round
              case rel =>
                refine ⟨q + 1, by omega, by omega, by go_num, ?_, ?_, ?_, ?_, ?_⟩
                all_goals rw [HNX.out, HLP.out]
                · rw [FP.out]; simp [h1, HQ.out]
                · rw [LV.out, HQ.out]
                · rw [HL1.out]; go_num
                · rw [LN.out]; simp [h2]; try go_num
                · rw [RN.out]; simp [h3]; try go_num
              case measure => simp [intOf]; omega
          · rw [if_neg g1, List.append_nil] at LP
            have HLP := Lib.hid LP
            have g2 : (x == lo) = false := by simpa using g1
            have g3 : (x != lo) = true := by simpa using g1
            clear LP g1
            go_wp2
            go_round
            case rel =>
              refine ⟨q + 1, by omega, by omega, by go_num, ?_, ?_, ?_, ?_, ?_⟩
              all_goals rw [HNX.out, HLP.out]
            case measure => simp [intOf]; omega
        · obtain rfl : q = k := by omega
          rw [List.take_of_length_le (by rw [PL.out]; exact Nat.le_refl _)]
          obtain ⟨P, hP⟩ : ∃ P, P = lows lo 0 p := ⟨_, rfl⟩
          have hroot : Hid (root p = pick P) := Lib.hid (by rw [hP, HLo.out]; rfl)
          rw [← hP]
          have hP1 : P.length ≤ q - a := by
            rw [hP]
            have := lows_le lo p 0
            rw [PL.out] at this
            exact this
          have hP2 := leftN_le P
          have hP3 := rightN_le P
          have hne : P ≠ [] := by
            intro e
            obtain ⟨kk, hk1, hk2⟩ := lowL_is p (fun f hfm => (hf.out f hfm).2.1) (by intro e2; have := PL.out; rw [e2] at this; simp at this; omega)
            have := mem_lows (low := lo) (p := p) (i := 0) hk1 (by rw [hk2, HLo.out])
            rw [← hP, e] at this
            simp at this
          have hlen : 0 < P.length := List.length_pos_iff.2 hne
          have PKL := Lib.hid (fun a b => @pick_last P a b)
          have PKN := Lib.hid (fun a b c => @pick_none P a b c)
          have PKF := Lib.hid (fun a b => @pick_first P a b)
          have MF : Hid (∃ i, P.head?.map Prod.fst = some i ∧ firstV a P = (a : Int) + i ∧ i < q - a) := Lib.hid (by
            rcases hh : P with _ | ⟨y, P'⟩
            · exact absurd hh hne
            · refine ⟨y.1, rfl, rfl, ?_⟩
              have hy : y ∈ lows lo 0 p := by rw [← hP, hh]; exact List.mem_cons_self
              have := (lows_mem hy).2.1
              rw [PL.out] at this
              omega)
          have MLt : Hid (∃ i, P.getLast?.map Prod.fst = some i ∧ lastV a P = (a : Int) + i ∧ i < q - a) := Lib.hid (by
            obtain ⟨y, hy⟩ : ∃ y, P.getLast? = some y := ⟨_, List.getLast?_eq_some_getLast hne⟩
            refine ⟨y.1, by rw [hy]; rfl, by unfold lastV; rw [hy], ?_⟩
            have hy : y ∈ lows lo 0 p := by rw [← hP]; exact List.mem_of_getLast? hy
            have := (lows_mem hy).2.1
            rw [PL.out] at this
            omega)
          clear hP hne HLo PT
          generalize firstV (a : Int) P = v1 at *
          generalize lastV (a : Int) P = v2 at *
          generalize leftN P = v3 at *
          generalize rightN P = v4 at *
          generalize P.length = v5 at *
          have FA := Lib.hid (show FixAt w (.slice (some ⟨b, off, none⟩) n c) fs from HFA.out)
          have tail : ∀ i, i < q - a → root p = some i → True := fun _ _ _ => trivial
          clear tail
          by_cases hB : 1 < v5 ∧ ¬ v3 = v5 ∧ ¬ v4 = v5
          · obtain ⟨b1, b2, b3⟩ := hB
            have E := Lib.hid (HN.out (hroot.out.trans (PKN.out b1 b2 b3)))
            have d1 : decide ((1 : Int) < (v5 : Int)) = true := by simp; omega
            have d2 : ((v3 : Int) == (v5 : Int)) = false := by simp; omega
            have d3 : ((v4 : Int) == (v5 : Int)) = false := by simp; omega
            have d4 : ((v4 : Int) != (v5 : Int)) = true := by simp; omega
            clear b1 b2 b3
            go_wp2
            go_ret2
            rw [E.out]
            exact BRes.none' (Below.refl _ _)
          · have hac : (1 < v5 ∧ v3 = v5) ∨ v5 = 1 ∨ (1 < v5 ∧ ¬ v3 = v5 ∧ v4 = v5) := by omega
            clear hB
            rcases hac with ⟨b1, b2⟩ | b1 | ⟨b1, b2, b3⟩
            · obtain ⟨i, hi1, hi2, hi3⟩ := MLt.out
              have ROOT : Hid (root p = some i) := Lib.hid (hroot.out.trans ((PKL.out b1 b2).trans hi1))
              have d1 : decide ((1 : Int) < (v5 : Int)) = true := by simp; omega
              have d2 : ((v3 : Int) == (v5 : Int)) = true := by simp; omega
              obtain ⟨t, ht⟩ : ∃ t, t = a + i := ⟨_, rfl⟩
              obtain rfl : v2 = (t : Int) := by rw [hi2, ht]; omega
              have HT := Lib.hid ht
              have htq : t < q := by omega
              clear hi1 hi2 ht b1 b2
              have h2 := HL.out i ROOT.out
              have hR := HR.out i ROOT.out
              rw [← HT.out] at h2
              obtain ⟨q1, hq1⟩ : ∃ q1, q1 = o1 i := ⟨_, rfl⟩
              obtain ⟨q2, hq2⟩ : ∃ q2, q2 = o2 i := ⟨_, rfl⟩
              have lx := HLX.out i ROOT.out
              rw [← hq1, ← hq2] at h2 hR lx
              have LX := Lib.hid lx
              have H1 := Lib.hid h2.1
              have H2 := Lib.hid h2.2
              have HRI := Lib.hid hR
              have HTI : Hid (((t : Nat) : Int) = (a : Int) + (i : Int)) := Lib.hid (by rw [HT.out]; omega)
              clear h2 hR hq1 hq2 hi3 lx
              go_wp2_with fail
              refine (H1.out w _ FA.out).mono ?_
              rintro e w1 hres
              obtain ⟨p1, n1, k1, rfl, b1, r1⟩ := hres.form
              have B1 := Lib.hid b1
              have R1 := Lib.hid r1
              have FB := Lib.hid (FA.out.below b1)
              clear hres b1 r1
              go_wp2_with fail
              refine (H2.out w1 _ FB.out).mono ?_
              rintro e w2 hres
              obtain ⟨p2, n2, k2, rfl, b2, r2⟩ := hres.form
              have B2 := Lib.hid (B1.out.trans (b2.mono B1.out.size))
              have R2 := Lib.hid r2
              have R1' : Hid (∀ c_1 : List Int, q1 = some c_1 → IntsAt w2 (.slice p1 n1 k1) c_1) := Lib.hid fun x hx => (R1.out x hx).below b2
              clear hres b2 r2 R1
              cases q1 with
              | none =>
                have E : Hid (R = none) := Lib.hid (by rw [HRI.out])
                cases q2
                all_goals
                  simp only [Option.isSome]
                  go_wp2
                  go_ret2
                  rw [E.out]
                  exact BRes.none' B2.out
              | some x =>
                cases q2 with
                | none =>
                  have E : Hid (R = none) := Lib.hid (by rw [HRI.out])
                  simp only [Option.isSome]
                  go_wp2
                  go_ret2
                  rw [E.out]
                  exact BRes.none' B2.out
                | some y =>
                  have E : Hid (R = some ((t : Int) :: (x ++ y))) := Lib.hid (by rw [HRI.out, HTI.out])
                  have X := Lib.hid (R1'.out x rfl)
                  have Y := Lib.hid (R2.out y rfl)
                  have lx1 : x.length ≤ 1000000 := LX.out.1 x rfl
                  have ly1 : y.length ≤ 1000000 := LX.out.2 y rfl
                  obtain ⟨hx1, hx2⟩ := ints_src X.out
                  obtain ⟨hy1, hy2⟩ := ints_src Y.out
                  have HX1 := Lib.hid hx1
                  have HY1 := Lib.hid hy1
                  have BA : Hid (Below w2.heap.size w2 (w2.alloc (.cells #[.int .i64 (t : Int)] 3))) := Lib.hid ((Below.refl _ _).alloc (Nat.le_refl _) _)
                  have X2 := Lib.hid (ints_src (X.out.below BA.out)).2
                  have n1b : n1 ≤ 1000000 := by omega
                  have n2b : n2 ≤ 1000000 := by omega
                  have M1 : Hid (1 + n1 ≤ maxLen ∧ (1 + n1) * 8 ≤ 140737488355328) := Lib.hid ⟨by unfold maxLen; omega, by omega⟩
                  have M2 : Hid (1 + n1 + n2 ≤ maxLen ∧ (1 + n1 + n2) * 8 ≤ 140737488355328) := Lib.hid ⟨by unfold maxLen; omega, by omega⟩
                  have L0 := Lib.hid (World.ownsRow_lit (base := w2.heap.size) (e := 3) (size := 1) w2 #[.int .i64 (t : Int)] 1 (Nat.le_refl _) (by unfold maxLen; omega) rfl)
                  clear R1' R2 HRI hx1 hx2 hy1 hy2 lx1 ly1 n1b n2b
                  simp only [Option.isSome]
                  go_wp2_with (at_builtin; (first
                    | (refine wpList_append_any _ rfl (.tmp 113) (.tmp 114) 38 rfl w2.heap.size 3 i0 (.int .i64 0) 1 8 Try.underlying38 HI.out.1 HI.out.2.1 HI.out.2.2.1 HI.out.2.2.2 rfl (by decide) _ 1 _ rfl L0.out p1 n1 k1 (intCells x) rfl (by rw [length_intCells, HX1.out]) X2.out (intCells_one x) M1.out.1 M1.out.2 BA.out.size ?_; intro p3 k3 w3 hown hgrow hblk; have O3 := Lib.hid hown; have B3 : Hid (Below w2.heap.size w2 w3) := Lib.hid (BA.out.grown hgrow BA.out.size (fun g hg => (World.ownsRow.there L0.out hg).1)); clear hown hgrow hblk)
                    | (refine wpList_append_any _ rfl (.tmp 115) (.tmp 116) 38 rfl w2.heap.size 3 i0 (.int .i64 0) 1 8 Try.underlying38 HI.out.1 HI.out.2.1 HI.out.2.2.1 HI.out.2.2.2 rfl (by decide) _ (1 + n1) _ rfl O3.out p2 n2 k2 (intCells y) rfl (by rw [length_intCells, HY1.out]) (ints_src (Y.out.below B3.out)).2 (intCells_one y) M2.out.1 M2.out.2 B3.out.size ?_; intro p4 k4 w4 hown hgrow hblk; have O4 := Lib.hid hown; have B4 : Hid (Below w2.heap.size w2 w4) := Lib.hid (B3.out.grown hgrow B3.out.size (fun g hg => (World.ownsRow.there O3.out hg).1)); clear hown hgrow hblk)))
                  go_ret2
                  rw [E.out]
                  refine ⟨B2.out.trans (B4.out.mono B2.out.size), .slice p4 (1 + n1 + n2) k4, rfl, ?_⟩
                  have := SliceAt.of_owns O4.out
                  unfold IntsAt
                  have e1 : intCells ((t : Int) :: (x ++ y)) = #[Value.int .i64 (t : Int)].toList ++ intCells x ++ intCells y := by simp [intCells]
                  have e2 : ((t : Int) :: (x ++ y)).length = 1 + n1 + n2 := by simp [HX1.out, HY1.out]; omega
                  rw [e1, e2]
                  exact this
            · obtain ⟨i, hi1, hi2, hi3⟩ := MF.out
              have ROOT : Hid (root p = some i) := Lib.hid (hroot.out.trans ((PKF.out (fun h => by omega) (fun h => by omega)).trans hi1))
              have d1 : decide ((1 : Int) < (v5 : Int)) = false := by simp; omega
              obtain ⟨t, ht⟩ : ∃ t, t = a + i := ⟨_, rfl⟩
              obtain rfl : v1 = (t : Int) := by rw [hi2, ht]; omega
              have HT := Lib.hid ht
              have htq : t < q := by omega
              clear hi1 hi2 ht b1
              have h2 := HL.out i ROOT.out
              have hR := HR.out i ROOT.out
              rw [← HT.out] at h2
              obtain ⟨q1, hq1⟩ : ∃ q1, q1 = o1 i := ⟨_, rfl⟩
              obtain ⟨q2, hq2⟩ : ∃ q2, q2 = o2 i := ⟨_, rfl⟩
              have lx := HLX.out i ROOT.out
              rw [← hq1, ← hq2] at h2 hR lx
              have LX := Lib.hid lx
              have H1 := Lib.hid h2.1
              have H2 := Lib.hid h2.2
              have HRI := Lib.hid hR
              have HTI : Hid (((t : Nat) : Int) = (a : Int) + (i : Int)) := Lib.hid (by rw [HT.out]; omega)
              clear h2 hR hq1 hq2 hi3 lx
              go_wp2_with fail
              refine (H1.out w _ FA.out).mono ?_
              rintro e w1 hres
              obtain ⟨p1, n1, k1, rfl, b1, r1⟩ := hres.form
              have B1 := Lib.hid b1
              have R1 := Lib.hid r1
              have FB := Lib.hid (FA.out.below b1)
              clear hres b1 r1
              go_wp2_with fail
              refine (H2.out w1 _ FB.out).mono ?_
              rintro e w2 hres
              obtain ⟨p2, n2, k2, rfl, b2, r2⟩ := hres.form
              have B2 := Lib.hid (B1.out.trans (b2.mono B1.out.size))
              have R2 := Lib.hid r2
              have R1' : Hid (∀ c_1 : List Int, q1 = some c_1 → IntsAt w2 (.slice p1 n1 k1) c_1) := Lib.hid fun x hx => (R1.out x hx).below b2
              clear hres b2 r2 R1
              cases q1 with
              | none =>
                have E : Hid (R = none) := Lib.hid (by rw [HRI.out])
                cases q2
                all_goals
                  simp only [Option.isSome]
                  go_wp2
                  go_ret2
                  rw [E.out]
                  exact BRes.none' B2.out
              | some x =>
                cases q2 with
                | none =>
                  have E : Hid (R = none) := Lib.hid (by rw [HRI.out])
                  simp only [Option.isSome]
                  go_wp2
                  go_ret2
                  rw [E.out]
                  exact BRes.none' B2.out
                | some y =>
                  have E : Hid (R = some ((t : Int) :: (x ++ y))) := Lib.hid (by rw [HRI.out, HTI.out])
                  have X := Lib.hid (R1'.out x rfl)
                  have Y := Lib.hid (R2.out y rfl)
                  have lx1 : x.length ≤ 1000000 := LX.out.1 x rfl
                  have ly1 : y.length ≤ 1000000 := LX.out.2 y rfl
                  obtain ⟨hx1, hx2⟩ := ints_src X.out
                  obtain ⟨hy1, hy2⟩ := ints_src Y.out
                  have HX1 := Lib.hid hx1
                  have HY1 := Lib.hid hy1
                  have BA : Hid (Below w2.heap.size w2 (w2.alloc (.cells #[.int .i64 (t : Int)] 3))) := Lib.hid ((Below.refl _ _).alloc (Nat.le_refl _) _)
                  have X2 := Lib.hid (ints_src (X.out.below BA.out)).2
                  have n1b : n1 ≤ 1000000 := by omega
                  have n2b : n2 ≤ 1000000 := by omega
                  have M1 : Hid (1 + n1 ≤ maxLen ∧ (1 + n1) * 8 ≤ 140737488355328) := Lib.hid ⟨by unfold maxLen; omega, by omega⟩
                  have M2 : Hid (1 + n1 + n2 ≤ maxLen ∧ (1 + n1 + n2) * 8 ≤ 140737488355328) := Lib.hid ⟨by unfold maxLen; omega, by omega⟩
                  have L0 := Lib.hid (World.ownsRow_lit (base := w2.heap.size) (e := 3) (size := 1) w2 #[.int .i64 (t : Int)] 1 (Nat.le_refl _) (by unfold maxLen; omega) rfl)
                  clear R1' R2 HRI hx1 hx2 hy1 hy2 lx1 ly1 n1b n2b
                  simp only [Option.isSome]
                  go_wp2_with (at_builtin; (first
                    | (refine wpList_append_any _ rfl (.tmp 113) (.tmp 114) 38 rfl w2.heap.size 3 i0 (.int .i64 0) 1 8 Try.underlying38 HI.out.1 HI.out.2.1 HI.out.2.2.1 HI.out.2.2.2 rfl (by decide) _ 1 _ rfl L0.out p1 n1 k1 (intCells x) rfl (by rw [length_intCells, HX1.out]) X2.out (intCells_one x) M1.out.1 M1.out.2 BA.out.size ?_; intro p3 k3 w3 hown hgrow hblk; have O3 := Lib.hid hown; have B3 : Hid (Below w2.heap.size w2 w3) := Lib.hid (BA.out.grown hgrow BA.out.size (fun g hg => (World.ownsRow.there L0.out hg).1)); clear hown hgrow hblk)
                    | (refine wpList_append_any _ rfl (.tmp 115) (.tmp 116) 38 rfl w2.heap.size 3 i0 (.int .i64 0) 1 8 Try.underlying38 HI.out.1 HI.out.2.1 HI.out.2.2.1 HI.out.2.2.2 rfl (by decide) _ (1 + n1) _ rfl O3.out p2 n2 k2 (intCells y) rfl (by rw [length_intCells, HY1.out]) (ints_src (Y.out.below B3.out)).2 (intCells_one y) M2.out.1 M2.out.2 B3.out.size ?_; intro p4 k4 w4 hown hgrow hblk; have O4 := Lib.hid hown; have B4 : Hid (Below w2.heap.size w2 w4) := Lib.hid (B3.out.grown hgrow B3.out.size (fun g hg => (World.ownsRow.there O3.out hg).1)); clear hown hgrow hblk)))
                  go_ret2
                  rw [E.out]
                  refine ⟨B2.out.trans (B4.out.mono B2.out.size), .slice p4 (1 + n1 + n2) k4, rfl, ?_⟩
                  have := SliceAt.of_owns O4.out
                  unfold IntsAt
                  have e1 : intCells ((t : Int) :: (x ++ y)) = #[Value.int .i64 (t : Int)].toList ++ intCells x ++ intCells y := by simp [intCells]
                  have e2 : ((t : Int) :: (x ++ y)).length = 1 + n1 + n2 := by simp [HX1.out, HY1.out]; omega
                  rw [e1, e2]
                  exact this
            · obtain ⟨i, hi1, hi2, hi3⟩ := MF.out
              have ROOT : Hid (root p = some i) := Lib.hid (hroot.out.trans ((PKF.out (fun _ => b2) (fun _ => b3)).trans hi1))
              have d1 : decide ((1 : Int) < (v5 : Int)) = true := by simp; omega
              have d2 : ((v3 : Int) == (v5 : Int)) = false := by simp; omega
              have d3 : ((v4 : Int) == (v5 : Int)) = true := by simp; omega
              have d4 : ((v4 : Int) != (v5 : Int)) = false := by simp; omega
              obtain ⟨t, ht⟩ : ∃ t, t = a + i := ⟨_, rfl⟩
              obtain rfl : v1 = (t : Int) := by rw [hi2, ht]; omega
              have HT := Lib.hid ht
              have htq : t < q := by omega
              clear hi1 hi2 ht b1 b2 b3
              have h2 := HL.out i ROOT.out
              have hR := HR.out i ROOT.out
              rw [← HT.out] at h2
              obtain ⟨q1, hq1⟩ : ∃ q1, q1 = o1 i := ⟨_, rfl⟩
              obtain ⟨q2, hq2⟩ : ∃ q2, q2 = o2 i := ⟨_, rfl⟩
              have lx := HLX.out i ROOT.out
              rw [← hq1, ← hq2] at h2 hR lx
              have LX := Lib.hid lx
              have H1 := Lib.hid h2.1
              have H2 := Lib.hid h2.2
              have HRI := Lib.hid hR
              have HTI : Hid (((t : Nat) : Int) = (a : Int) + (i : Int)) := Lib.hid (by rw [HT.out]; omega)
              clear h2 hR hq1 hq2 hi3 lx
              go_wp2_with fail
              refine (H1.out w _ FA.out).mono ?_
              rintro e w1 hres
              obtain ⟨p1, n1, k1, rfl, b1, r1⟩ := hres.form
              have B1 := Lib.hid b1
              have R1 := Lib.hid r1
              have FB := Lib.hid (FA.out.below b1)
              clear hres b1 r1
              go_wp2_with fail
              refine (H2.out w1 _ FB.out).mono ?_
              rintro e w2 hres
              obtain ⟨p2, n2, k2, rfl, b2, r2⟩ := hres.form
              have B2 := Lib.hid (B1.out.trans (b2.mono B1.out.size))
              have R2 := Lib.hid r2
              have R1' : Hid (∀ c_1 : List Int, q1 = some c_1 → IntsAt w2 (.slice p1 n1 k1) c_1) := Lib.hid fun x hx => (R1.out x hx).below b2
              clear hres b2 r2 R1
              cases q1 with
              | none =>
                have E : Hid (R = none) := Lib.hid (by rw [HRI.out])
                cases q2
                all_goals
                  simp only [Option.isSome]
                  go_wp2
                  go_ret2
                  rw [E.out]
                  exact BRes.none' B2.out
              | some x =>
                cases q2 with
                | none =>
                  have E : Hid (R = none) := Lib.hid (by rw [HRI.out])
                  simp only [Option.isSome]
                  go_wp2
                  go_ret2
                  rw [E.out]
                  exact BRes.none' B2.out
                | some y =>
                  have E : Hid (R = some ((t : Int) :: (x ++ y))) := Lib.hid (by rw [HRI.out, HTI.out])
                  have X := Lib.hid (R1'.out x rfl)
                  have Y := Lib.hid (R2.out y rfl)
                  have lx1 : x.length ≤ 1000000 := LX.out.1 x rfl
                  have ly1 : y.length ≤ 1000000 := LX.out.2 y rfl
                  obtain ⟨hx1, hx2⟩ := ints_src X.out
                  obtain ⟨hy1, hy2⟩ := ints_src Y.out
                  have HX1 := Lib.hid hx1
                  have HY1 := Lib.hid hy1
                  have BA : Hid (Below w2.heap.size w2 (w2.alloc (.cells #[.int .i64 (t : Int)] 3))) := Lib.hid ((Below.refl _ _).alloc (Nat.le_refl _) _)
                  have X2 := Lib.hid (ints_src (X.out.below BA.out)).2
                  have n1b : n1 ≤ 1000000 := by omega
                  have n2b : n2 ≤ 1000000 := by omega
                  have M1 : Hid (1 + n1 ≤ maxLen ∧ (1 + n1) * 8 ≤ 140737488355328) := Lib.hid ⟨by unfold maxLen; omega, by omega⟩
                  have M2 : Hid (1 + n1 + n2 ≤ maxLen ∧ (1 + n1 + n2) * 8 ≤ 140737488355328) := Lib.hid ⟨by unfold maxLen; omega, by omega⟩
                  have L0 := Lib.hid (World.ownsRow_lit (base := w2.heap.size) (e := 3) (size := 1) w2 #[.int .i64 (t : Int)] 1 (Nat.le_refl _) (by unfold maxLen; omega) rfl)
                  clear R1' R2 HRI hx1 hx2 hy1 hy2 lx1 ly1 n1b n2b
                  simp only [Option.isSome]
                  go_wp2_with (at_builtin; (first
                    | (refine wpList_append_any _ rfl (.tmp 113) (.tmp 114) 38 rfl w2.heap.size 3 i0 (.int .i64 0) 1 8 Try.underlying38 HI.out.1 HI.out.2.1 HI.out.2.2.1 HI.out.2.2.2 rfl (by decide) _ 1 _ rfl L0.out p1 n1 k1 (intCells x) rfl (by rw [length_intCells, HX1.out]) X2.out (intCells_one x) M1.out.1 M1.out.2 BA.out.size ?_; intro p3 k3 w3 hown hgrow hblk; have O3 := Lib.hid hown; have B3 : Hid (Below w2.heap.size w2 w3) := Lib.hid (BA.out.grown hgrow BA.out.size (fun g hg => (World.ownsRow.there L0.out hg).1)); clear hown hgrow hblk)
                    | (refine wpList_append_any _ rfl (.tmp 115) (.tmp 116) 38 rfl w2.heap.size 3 i0 (.int .i64 0) 1 8 Try.underlying38 HI.out.1 HI.out.2.1 HI.out.2.2.1 HI.out.2.2.2 rfl (by decide) _ (1 + n1) _ rfl O3.out p2 n2 k2 (intCells y) rfl (by rw [length_intCells, HY1.out]) (ints_src (Y.out.below B3.out)).2 (intCells_one y) M2.out.1 M2.out.2 B3.out.size ?_; intro p4 k4 w4 hown hgrow hblk; have O4 := Lib.hid hown; have B4 : Hid (Below w2.heap.size w2 w4) := Lib.hid (B3.out.grown hgrow B3.out.size (fun g hg => (World.ownsRow.there O3.out hg).1)); clear hown hgrow hblk)))
                  go_ret2
                  rw [E.out]
                  refine ⟨B2.out.trans (B4.out.mono B2.out.size), .slice p4 (1 + n1 + n2) k4, rfl, ?_⟩
                  have := SliceAt.of_owns O4.out
                  unfold IntsAt
                  have e1 : intCells ((t : Int) :: (x ++ y)) = #[Value.int .i64 (t : Int)].toList ++ intCells x ++ intCells y := by simp [intCells]
                  have e2 : ((t : Int) :: (x ++ y)).length = 1 + n1 + n2 := by simp [HX1.out, HY1.out]; omega
                  rw [e1, e2]
                  exact this
/-- The document's bind, from one place up to another one. -/
theorem rbind_any (N : Nat) : ∀ (fs : List Fx) (a m : Nat), m - a ≤ N → a ≤ m → m ≤ fs.length → fs.length ≤ 400000 → (∀ f ∈ fs, fine f) → BindAt (bindL ((fs.drop a).take (m - a)) a) fs a m := by
  induction N with
  | zero =>
    intro fs a m hN ham hm hn hf w v h
    obtain rfl : a = m := by omega
    rw [Nat.sub_self, List.take_zero, bindL_nil]
    exact rbind_nil v a w (by omega)
  | succ N ih =>
    intro fs a m hN ham hm hn hf w v h
    by_cases hlt : a < m
    · obtain ⟨p, hp⟩ : ∃ p, p = (fs.drop a).take (m - a) := ⟨_, rfl⟩
      rw [← hp]
      have hpl : p.length = m - a := by rw [hp, List.length_take, List.length_drop]; omega
      have hpf : ∀ f ∈ p, fine f := fun f hfp => by rw [hp] at hfp; exact hf f (List.mem_of_mem_drop (List.mem_of_mem_take hfp))
      have hpne : p ≠ [] := by intro e; rw [e] at hpl; simp at hpl; omega
      obtain ⟨_, q, c, rfl, hnc, hcm, hh⟩ := h
      obtain ⟨b, off, rfl, hb, hc⟩ := hh (by omega)
      have e1 : ∀ i, i < m - a → (fs.drop a).take (a + i - a) = p.take i := fun i hi => by
        rw [hp, List.take_take, show a + i - a = min i (m - a) by omega]
      have e2 : ∀ i, i < m - a → (fs.drop (a + i + 1)).take (m - (a + i + 1)) = p.drop (i + 1) := fun i hi => by
        rw [hp, List.drop_take, List.drop_drop, show a + i + 1 = a + (i + 1) by omega, show m - (a + (i + 1)) = m - a - (i + 1) by omega]
      refine rbind_go b off fs.length c a m fs p w (fun i => bindL (p.take i) a) (fun i => bindL (p.drop (i + 1)) ((a : Int) + i + 1)) (Lib.hid rfl) (by omega) (Lib.hid hp) hlt hm hnc (Lib.hid hcm) hb (Lib.hid hc) (Lib.hid hpf) (Lib.hid fun i hr => ?_) (Lib.hid fun i hr => ?_) _ (Lib.hid fun hr => bindL_none _ hpne hr) (Lib.hid fun i hr => bindL_some _ hr)
      · have hi := (root_lt hr).1
        rw [hpl] at hi
        have h1 := ih fs a (a + i) (by omega) (by omega) (by omega) hn hf
        have h2 := ih fs (a + i + 1) m (by omega) (by omega) hm hn hf
        rw [e1 i hi] at h1
        rw [e2 i hi, show (((a + i + 1 : Nat)) : Int) = (a : Int) + i + 1 by omega] at h2
        exact ⟨h1, h2⟩
      · refine ⟨fun x hx => ?_, fun y hy => ?_⟩
        · have hi := (root_lt hr).1
          have := bindL_len hx
          rw [List.length_take, Nat.min_eq_left (Nat.le_of_lt hi)] at this
          have hi2 : i < 400000 := by omega
          clear hh hnc hcm hc
          omega
        · have := bindL_len hy
          rw [List.length_drop] at this
          omega
    · obtain rfl : a = m := by omega
      rw [Nat.sub_self, List.take_zero, bindL_nil]
      exact rbind_nil v a w (by omega)
end Go.Proofs.Ytkmgapieoedelaa
