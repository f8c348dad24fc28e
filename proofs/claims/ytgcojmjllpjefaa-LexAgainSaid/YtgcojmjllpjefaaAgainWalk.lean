/- The walk of LexAgain. -/
import Derived.Test.YtgcojmjllpjefaaAwake
import Derived.Lib.QuietBelow
namespace Go.Proofs.Ytgcojmjllpjefaa
open Go.RowKit Go.Sort Go.Proofs.LexMath

theorem again_line {l : Bs} {ts : List Tok} (h : lex l = .ok ts) : Line 0 l.length l.length ts ∧ ts.length ≤ l.length := by
  have := lex_line 0 0 l (by omega)
  rw [show lexAt 0 0 l = .ok ts from h] at this
  have h1 := this.1
  rw [Nat.zero_add] at h1
  exact ⟨h1, this.2.1⟩
theorem again_at {l : Bs} {ts : List Tok} (h : lex l = .ok ts) (i : Nat) (hi : i < ts.length) : rightB (ts.getD i default) = true ∧ (ts.getD i default).at_ < (l.length : Int) ∧ (ts.getD i default).text.size ≤ l.length ∧ (0 < i → (ts.getD (i - 1) default).at_ < (ts.getD i default).at_) := by
  have hl := (again_line h).1
  obtain ⟨h1, _, h3, h4, _⟩ := hl.get i hi
  refine ⟨h1, h3, h4, fun h0 => ?_⟩
  have h5 := (hl.get (i - 1) (by omega)).2.2.2.2 (by omega)
  rwa [show i - 1 + 1 = i by omega] at h5
theorem again_show {l : Bs} {ts : List Tok} (h : lex l = .ok ts) (hl : l.length ≤ 600) : ts.length ≤ 600 ∧ (∀ t ∈ ts, t.text.size ≤ 600) ∧ allR ts = true ∧ (bs (showL ts)).size ≤ 100000000 := by
  have h0 := again_line h
  have hm := h0.1.mem
  have ht : ∀ t ∈ ts, t.text.size ≤ 600 := fun t ht => Nat.le_trans (hm t ht).2 hl
  refine ⟨by omega, ht, ?_, ?_⟩
  · unfold allR
    exact List.all_eq_true.2 fun t ht => (hm t ht).1
  · have := showL_len ts 600 (fun t h1 => ⟨(hm t h1).1, Nat.le_trans (hm t h1).2 hl⟩)
    have h2 : ts.length * (4 * 600 + 21) ≤ 600 * (4 * 600 + 21) := Nat.mul_le_mul_right _ (by omega)
    have e : (bs (showL ts)).size = (showL ts).length := by simp [bs, ByteArray.size]
    omega
theorem again_back {l : Bs} {ts : List Tok} (h : lex l = .ok ts) (hl : l.length ≤ 600) : ∃ m, lex (showL ts) = .ok m ∧ m.length ≤ 600 ∧ (∀ t ∈ m, t.text.size ≤ 600) ∧ showV m = (bs (showL ts), 0) ∧ sameB ts m = true := by
  obtain ⟨h1, h2, h3, h4⟩ := again_show h hl
  have hr : ∀ t ∈ ts, rightB t = true := by unfold allR at h3; exact List.all_eq_true.1 h3
  obtain ⟨m, hm, hs⟩ := lex_show ts hr (by omega)
  have hs' : m.map Tok.core = ts.map Tok.core := hs
  have hlen : m.length = ts.length := by
    have := congrArg List.length hs'
    simpa using this
  have hmm := (again_line hm).1.mem
  have ha : allR m = true := by
    unfold allR
    exact List.all_eq_true.2 fun t ht => (hmm t ht).1
  refine ⟨m, hm, by omega, fun t ht => ?_, ?_, ?_⟩
  · have h5 : t.core ∈ ts.map Tok.core := by rw [← hs']; exact List.mem_map_of_mem ht
    obtain ⟨u, hu, he⟩ := List.mem_map.1 h5
    have h6 := h2 u hu
    have h7 : t.text = u.text := by
      have := congrArg (fun c => c.2.1) he
      simpa [Tok.core] using this.symm
    rw [h7]; exact h6
  · rw [showV, if_pos ha, same_show hs]
  · unfold sameB
    simp [hs']
theorem again_far (s : ByteArray) (w : World) (h : 600 < s.size) : Calls Try.prog 7 #[.string s] w (RB true w) := by
  have d : decide ((600 : Int) < (s.size : Int)) = true := by simp; omega
  clear h
  go_enter Try.func7, Try.ntmps7
  go_wp2_with fail
  refine (awake_any _).mono ?_
  rintro e w1 ⟨rfl, b1⟩
  have B1 := Lib.hid b1
  clear b1
  go_wp2_with fail
  refine (awake_any _).mono ?_
  rintro e w2 ⟨rfl, b2⟩
  go_wp2
  go_ret
  exact ⟨rfl, B1.out.trans (b2.mono B1.out.size)⟩
theorem again_err (s : ByteArray) (w : World) (h : s.size ≤ 600) (c : Int) (q : Nat) (hl : lex s.data.toList = .err c q) : Calls Try.prog 7 #[.string s] w (RB true w) := by
  have d : decide ((600 : Int) < (s.size : Int)) = false := by simp; omega
  have hne : (c != 0) = true := by
    have := lex_line 0 0 s.data.toList (by omega)
    rw [show lexAt 0 0 s.data.toList = .err c q from hl] at this
    have h1 := this.2.2.1
    simp
    omega
  have L := fun W => lex_any s W (by omega)
  rw [hl] at L
  have LL := Lib.hid L
  clear L hl h
  go_enter Try.func7, Try.ntmps7
  go_wp2_with fail
  refine (awake_any _).mono ?_
  rintro e w1 ⟨rfl, b1⟩
  have B1 := Lib.hid b1
  clear b1
  go_wp2_with fail
  refine (LL.out _).mono ?_
  rintro e w2 ⟨rfl, b2⟩
  go_wp2
  go_ret
  exact ⟨rfl, B1.out.trans (b2.mono B1.out.size)⟩
theorem again_s {W : World} {b off : Nat} {ts : List Tok} (hc : CellsIn W b off (tokCells ts)) (k : Nat) (hk : k < ts.length) (x : Tok) (hx : ts.getD k default = x) :
    (∀ d os, (grow (redrawn W d) os).cell? ⟨b, off + k * 4, none⟩ = some (.int .i64 x.kind)) ∧ (∀ d os, (grow (redrawn W d) os).cell? ⟨b, off + k * 4 + 1, none⟩ = some (.string x.text)) ∧ (∀ d os, (grow (redrawn W d) os).cell? ⟨b, off + k * 4 + 2, none⟩ = some (.int .i64 x.num)) ∧ (∀ d os, (grow (redrawn W d) os).cell? ⟨b, off + k * 4 + 3, none⟩ = some (.int .i64 x.at_)) := by
  subst hx
  have q := hc.tok k hk
  exact ⟨cell_regrown q.1, cell_regrown q.2.1, cell_regrown q.2.2.1, cell_regrown q.2.2.2⟩
set_option maxHeartbeats 0 in
set_option maxRecDepth 100000 in
theorem again_ok (s : ByteArray) (w : World) (h : s.size ≤ 600) (ts : List Tok) (hl : lex s.data.toList = .ok ts) : Calls Try.prog 7 #[.string s] w (RB true w) := by
  have d : decide ((600 : Int) < (s.size : Int)) = false := by simp; omega
  have hsl : s.data.toList.length = s.size := rfl
  have AT := Lib.hid (fun i hi => again_at hl i hi)
  obtain ⟨m1, m2, m3, m4⟩ := again_show hl h
  obtain ⟨ms, k1, k2, k3, k4, k5⟩ := again_back hl h
  have L := fun W => lex_any s W (by omega)
  rw [hl] at L
  have L2 := fun W => lex_any (bs (showL ts)) W (by omega)
  rw [bs_list, k1] at L2
  have R := Lib.hid (fun t W (ht : t.text.size ≤ s.data.toList.length) => right_any t W (by omega))
  have OT := Lib.hid (fun v W hv => own_any v ts W hv (by omega))
  have OM := Lib.hid (fun v W hv => own_any v ms W hv (by omega))
  have ST := fun v W hv => lshow_any v ts W hv (by omega) (fun t ht => Nat.le_trans (m2 t ht) (by omega))
  have SM := fun v W hv => lshow_any v ms W hv (by omega) (fun t ht => Nat.le_trans (k3 t ht) (by omega))
  rw [showV, if_pos m3] at ST
  rw [k4] at SM
  have RS := fun v1 v2 W h1 h2 => rsame_any v1 v2 ts ms W h1 h2 (by omega)
  rw [k5] at RS
  generalize bs (showL ts) = x at *
  rw [hsl] at AT
  obtain ⟨n, hn⟩ : ∃ n, ts.length = n := ⟨_, rfl⟩
  have hn6 : n ≤ 600 := by omega
  have LL := Lib.hid L
  have LM := Lib.hid L2
  have SS := Lib.hid ST
  have SM := Lib.hid SM
  have RS := Lib.hid RS
  have HN := Lib.hid hn
  have HSL := Lib.hid hsl
  clear L L2 ST k1 k2 k3 k4 k5 m1 m2 m3 m4 hl hn hsl
  go_enter Try.func7, Try.ntmps7
  go_wp2_with fail
  refine (awake_any _).mono ?_
  rintro e w1 ⟨rfl, b1⟩
  have B1 := Lib.hid b1
  clear b1
  go_wp2_with fail
  refine (LL.out _).mono ?_
  rintro e w3 ⟨v3, rfl, t3, b3⟩
  obtain ⟨p3, c3, rfl⟩ := toks_form t3
  rw [HN.out] at t3 ⊢
  have B3 := Lib.hid (B1.out.trans (b3.mono B1.out.size))
  have T3 := Lib.hid t3
  clear b3 B1 t3
  go_wp2
  go_loopw [6] (fun i wr => ∃ k : Nat, k ≤ n ∧ i = .int .i64 k ∧ Below w3.heap.size w3 wr) (fun i _ => n - (intOf i).toNat)
  case atStart => exact ⟨0, Nat.zero_le _, rfl, Below.refl _ _⟩
  case round =>
    obtain ⟨wo, hwo⟩ : ∃ wo : World, wo = wr := ⟨_, rfl⟩
    subst hwo
    obtain ⟨k, hk, rfl, hbel⟩ := hrel
    have HB := Lib.hid hbel
    clear hbel
    by_cases hlt : k < n
    · obtain ⟨_, q3, d3, hv, _, _, hsrc⟩ := T3.out
      rw [HN.out] at hv hsrc
      simp only [Value.slice.injEq] at hv
      obtain ⟨rfl, _, rfl⟩ := hv
      obtain ⟨b, off, rfl, hb, hc⟩ := hsrc (by omega)
      clear hsrc
      have HC := Lib.hid (hc.below hb HB.out)
      clear hc
      obtain ⟨a1, a2, a3, a4⟩ := AT.out k (by rw [HN.out]; exact hlt)
      have z0 : (0 : Int) ≤ (k : Int) := by omega
      have z1 : (k : Int) < (n : Int) := by omega
      have RK := fun W => R.out (ts.getD k default) W (by rw [HSL.out]; exact a3)
      rw [a1] at RK
      by_cases hk0 : 0 < k
      · have a5 := a4 hk0
        obtain ⟨t, ht⟩ : ∃ t, ts.getD k default = t := ⟨_, rfl⟩
        obtain ⟨u, hu⟩ : ∃ u, ts.getD (k - 1) default = u := ⟨_, rfl⟩
        have S := again_s HC.out k (by rw [HN.out]; exact hlt) t ht
        have S2 := again_s HC.out (k - 1) (by rw [HN.out]; omega) u hu
        rw [ht] at RK a2 a5
        rw [hu] at a5
        clear ht hu a1 a3 a4
        obtain ⟨tk, tt, tn, ta⟩ := t
        obtain ⟨uk, ut, un, ua⟩ := u
        unfold tokV at RK
        simp only at S S2 a2 a5
        obtain ⟨s1, s2, s3, s4⟩ := S
        obtain ⟨-, -, -, s5⟩ := S2
        have HS := Lib.hid (And.intro s1 (And.intro s2 (And.intro s3 (And.intro s4 s5))))
        clear s1 s2 s3 s4 s5
        have g1 : decide ((s.size : Int) ≤ ta) = false := by simp; omega
        have g2 : decide ((0 : Int) < (k : Int)) = true := by simp; omega
        have g3 : decide (ta ≤ ua) = false := by simp; omega
        have g4 : IntKind.i64.wrap ((k : Int) - 1) = (k : Int) - 1 := IntWalk.i64_in _ (by omega)
        have g5 : ((k : Int) - 1).toNat = k - 1 := by omega
        have g6 : (0 : Int) ≤ (k : Int) - 1 := by omega
        have g7 : (k : Int) - 1 < (n : Int) := by omega
        have g9 : (1 : Int) ≤ (k : Int) := by omega
        have g10 : (k : Int) ≤ (n : Int) := by omega
        have g11 : k - 1 < n := by omega
        have RR := Lib.hid RK
        clear RK a2 a5
        go_wp2_with fail
        obtain ⟨s1, s2, s3, s4, s5⟩ := HS.out
        refine wp_region_quiet_below (by kernel_rfl) (by kernel_rfl) ?_
        iterate 34
          with_reducible refine wpQuiet_step (fun K hK => ?_)
          have HK := Lib.hid hK
          clear hK
          go_simp
          first
            | ((with_reducible refine HK.out _ ?_); clear HK K)
            | (apply Exists.intro
               refine ⟨fun _ => ?_, HK.out _ ?_⟩
               (go_at_call 20; exact Calls.regrown_of (RR.out _))
               clear HK K)
        refine wpQuiet_nil ?_
        intro _ hw'
        obtain ⟨⟨dq, osq⟩, hw''⟩ := hw'
        subst hw''
        clear s1 s2 s3 s4 s5
        clear g3 g4 g5 g6 g7 g9 g10 g11
        go_wp2
        go_roundw
        case rel => exact ⟨k + 1, by omega, by go_num, aw_next HB.out (below_regrown wo dq osq)⟩
        case measure => simp [intOf]; omega
      · obtain rfl : k = 0 := by omega
        obtain ⟨t, ht⟩ : ∃ t, ts.getD 0 default = t := ⟨_, rfl⟩
        have S := again_s HC.out 0 (by rw [HN.out]; exact hlt) t ht
        rw [ht] at RK a2
        clear ht a1 a3 a4 hk0
        obtain ⟨tk, tt, tn, ta⟩ := t
        unfold tokV at RK
        simp only [Nat.zero_mul, Nat.add_zero] at S a2
        have HS := Lib.hid S
        clear S
        have g1 : decide ((s.size : Int) ≤ ta) = false := by simp; omega
        have g8 : 0 < n := hlt
        have RR := Lib.hid RK
        clear RK a2
        simp only [Int.natCast_zero]
        go_wp2_with fail
        obtain ⟨s1, s2, s3, s4⟩ := HS.out
        refine wp_region_quiet_below (by kernel_rfl) (by kernel_rfl) ?_
        iterate 34
          with_reducible refine wpQuiet_step (fun K hK => ?_)
          have HK := Lib.hid hK
          clear hK
          go_simp
          first
            | ((with_reducible refine HK.out _ ?_); clear HK K)
            | (apply Exists.intro
               refine ⟨fun _ => ?_, HK.out _ ?_⟩
               (go_at_call 20; exact Calls.regrown_of (RR.out _))
               clear HK K)
        refine wpQuiet_nil ?_
        intro _ hw'
        obtain ⟨⟨dq, osq⟩, hw''⟩ := hw'
        subst hw''
        clear s1 s2 s3 s4
        go_wp2
        go_roundw
        case rel => exact ⟨1, by omega, by go_num, aw_next HB.out (below_regrown wo dq osq)⟩
        case measure => simp [intOf]; omega
    · have T3 := Lib.hid (T3.out.below HB.out)
      have B3 := Lib.hid (aw_next B3.out HB.out)
      have O := OT.out _ wo T3.out
      have OO := Lib.hid O
      clear O
      go_wp2_with fail
      refine OO.out.mono ?_
      rintro e w4 ⟨v4, rfl, t4, b4⟩
      obtain ⟨p4, c4, rfl⟩ := toks_form t4
      rw [HN.out] at t4 ⊢
      have B4 := Lib.hid (aw_next B3.out b4)
      have T3 := Lib.hid (T3.out.below b4)
      have T4 := Lib.hid t4
      clear b4 t4
      go_wp2_with fail
      refine (SS.out _ _ T4.out).mono ?_
      rintro e w5 ⟨rfl, b5⟩
      have B5 := Lib.hid (aw_next B4.out b5)
      have T3 := Lib.hid (T3.out.below b5)
      clear b5
      go_wp2_with fail
      refine (LM.out _).mono ?_
      rintro e w6 ⟨v6, rfl, t6, b6⟩
      obtain ⟨p6, c6, rfl⟩ := toks_form t6
      have B6 := Lib.hid (aw_next B5.out b6)
      have T3 := Lib.hid (T3.out.below b6)
      have T6 := Lib.hid t6
      clear b6 t6
      go_wp2_with fail
      refine (OM.out _ _ T6.out).mono ?_
      rintro e w7 ⟨v7, rfl, t7, b7⟩
      obtain ⟨p7, c7, rfl⟩ := toks_form t7
      have B7 := Lib.hid (aw_next B6.out b7)
      have T3 := Lib.hid (T3.out.below b7)
      have T6 := Lib.hid (T6.out.below b7)
      have T7 := Lib.hid t7
      clear b7 t7
      go_wp2_with fail
      refine (SM.out _ _ T7.out).mono ?_
      rintro e w8 ⟨rfl, b8⟩
      have B8 := Lib.hid (aw_next B7.out b8)
      have T3 := Lib.hid (T3.out.below b8)
      have T6 := Lib.hid (T6.out.below b8)
      clear b8
      go_wp2_with fail
      refine (RS.out _ _ _ T3.out T6.out).mono ?_
      rintro e w9 ⟨rfl, b9⟩
      go_wp2
      go_ret
      exact ⟨rfl, aw_next B8.out b9⟩
theorem again_walk (s : ByteArray) (w : World) : Calls Try.prog 7 #[.string s] w (RB true w) := by
  by_cases h : 600 < s.size
  · exact again_far s w h
  · cases hl : lex s.data.toList with
    | ok ts => exact again_ok s w (by omega) ts hl
    | err c q => exact again_err s w (by omega) c q hl
end Go.Proofs.Ytgcojmjllpjefaa
