/- The document's own answers: End, Whole, Kids, Sub, Make. -/
import Derived.Test.YtlalnmefppbebaaKids
import Derived.Test.YtlalnmefppbebaaMake
namespace Go.Proofs.Ytlalnmefppbebaa
open Go.RowKit Go.Proofs.TreeMath
theorem ref_out (p : Option Addr) (n c : Nat) (i : Int) (w : World) (h : i < 0 ∨ (n : Int) ≤ i) :
    Calls Try.prog 48 #[.slice p n c, .int .i64 i] w fun e w' => e = .returned (.int .i64 (-1)) ∧ w = w' := by
  by_cases h0 : i < 0
  · go_enter Try.func48, Try.ntmps48
    go_wp2
    go_ret
    exact ⟨rfl, rfl⟩
  · have h1 : (n : Int) ≤ i := by omega
    clear h
    go_enter Try.func48, Try.ntmps48
    go_wp2
    go_ret
    exact ⟨rfl, rfl⟩
theorem ref_bad (b off n c i : Nat) (k : Int) (w : World) (hi : i < n) (hk : w.cell? ⟨b, off + i * 4 + 3, none⟩ = some (.int .i64 k)) (h : k < 0 ∨ (n : Int) < k) :
    Calls Try.prog 48 #[.slice (some ⟨b, off, none⟩) n c, .int .i64 i] w fun e w' => e = .returned (.int .i64 (-1)) ∧ w = w' := by
  have t0 : decide ((i : Int) < 0) = false := decide_eq_false (by omega)
  have t1 : decide ((n : Int) ≤ i) = false := decide_eq_false (by omega)
  have t2 : decide (n ≤ i) = false := decide_eq_false (by omega)
  by_cases h0 : k < 0
  · go_enter Try.func48, Try.ntmps48
    go_wp2
    go_ret
    exact ⟨rfl, rfl⟩
  · have h1 : (n : Int) < k := by omega
    clear h
    go_enter Try.func48, Try.ntmps48
    go_wp2
    go_ret
    exact ⟨rfl, rfl⟩
set_option maxHeartbeats 1000000 in
theorem ref_end_in (b off n c : Nat) (ks : List Int) (w : World) (hl : Hid (ks.length = n)) (hn : n ≤ 1000000) (hc : Hid (∀ m, m < n → w.cell? ⟨b, off + m * 4 + 3, none⟩ = some (.int .i64 (ks.getD m 0)))) :
    ∀ d i : Nat, i < n → n ≤ i + d → Calls Try.prog 48 #[.slice (some ⟨b, off, none⟩) n c, .int .i64 i] w fun e w' => e = .returned (.int .i64 (fin ks i 1)) ∧ w = w' := by
  intro d
  induction d with
  | zero => intro i h1 h2; omega
  | succ d ih =>
    intro i hi hid
    have hk := hc.out i hi
    by_cases hbad : ks.getD i 0 < 0 ∨ (n : Int) < ks.getD i 0
    · refine (ref_bad b off n c i _ w hi hk hbad).mono ?_
      rintro e w' ⟨rfl, rfl⟩
      refine ⟨?_, rfl⟩
      have : fin ks i 1 = -1 := by
        rcases hbad with h | h
        · exact fin_neg ks i 0 (by rw [hl.out]; exact hi) h
        · rw [fin_step ks i 0 (by rw [hl.out]; exact hi) (by omega)]
          exact fin_many _ _ _ (by rw [hl.out]; omega) (by rw [hl.out]; omega)
      rw [this]
    · obtain ⟨K, hK⟩ : ∃ K : Nat, ks.getD i 0 = K := ⟨(ks.getD i 0).toNat, by omega⟩
      rw [hK] at hk hbad
      have hcall : ∀ t : Nat, i < t → t ≤ n → Calls Try.prog 48 #[.slice (some ⟨b, off, none⟩) n c, .int .i64 t] w fun e w' => e = .returned (.int .i64 (fin ks t 1)) ∧ w = w' := by
        intro t h1 h2
        rcases Nat.lt_or_ge t n with h | h
        · exact ih t h (by omega)
        · have : fin ks t 1 = -1 := fin_out ks t 0 (by rw [hl.out]; exact h)
          rw [this]
          exact ref_out _ n c t w (.inr (by omega))
      have HCall := Lib.hid hcall
      have HF : Hid (fin ks i 1 = fin ks (i + 1) K) := Lib.hid (by
        have := fin_step ks i 0 (by rw [hl.out]; exact hi) (by rw [hK]; omega)
        rw [hK] at this
        simpa using this)
      have t0 : decide ((i : Int) < 0) = false := decide_eq_false (by omega)
      have t1 : decide ((n : Int) ≤ i) = false := decide_eq_false (by omega)
      have t2 : decide (n ≤ i) = false := decide_eq_false (by omega)
      have t3 : decide ((K : Int) < 0) = false := decide_eq_false (by omega)
      have t4 : decide ((n : Int) < (K : Int)) = false := decide_eq_false (by omega)
      have t5 : decide (n < K) = false := decide_eq_false (by omega)
      have hKn : K ≤ n := by omega
      clear ih hcall hK hbad
      go_enter Try.func48, Try.ntmps48
      go_wp2
      clear t0 t1 t2 t3 t4 t5
      go_loop [5, 6] (fun s q => ∃ j t : Nat, j ≤ K ∧ q = .int .i64 j ∧ s = .int .i64 t ∧ i < t ∧ t ≤ n ∧ fin ks t (K - j) = fin ks i 1) (fun _ q => K - (intOf q).toNat)
      case atStart => exact ⟨0, i + 1, Nat.zero_le _, rfl, by go_num, by omega, by omega, by rw [HF.out]; rfl⟩
      case round =>
        obtain ⟨j, t, hj, rfl, rfl, hit, htn, hf⟩ := hrel
        by_cases hlt : j < K
        · have hs := fin_succ ks t (K - (j + 1))
          rw [show K - (j + 1) + 1 = K - j by omega, hf] at hs
          have hle := fin_len ks t 1 (by rw [hl.out]; exact htn)
          have hge := fin_le ks t 1
          rw [hl.out] at hle
          obtain ⟨x, hx⟩ : ∃ x, x = fin ks t 1 := ⟨_, rfl⟩
          rw [← hx] at hs hle hge
          by_cases hx0 : x < 0
          · rw [if_pos hx0] at hs
            have HS := Lib.hid hs
            have HX := Lib.hid hx
            have t6 : decide (x < 0) = true := decide_eq_true hx0
            clear hs hx hf hge
            go_wp2_with ((go_at_call 48; refine (HCall.out t hit htn).mono ?_; rw [← HX.out]; rintro e w' ⟨rfl, rfl⟩))
            go_ret
            exact ⟨ret_int HS.out.symm, rfl⟩
          · rw [if_neg hx0] at hs
            obtain ⟨t', rfl⟩ : ∃ t' : Nat, x = t' := ⟨x.toNat, by omega⟩
            have h9 := hge (by omega)
            have HS := Lib.hid hs
            have HX := Lib.hid hx
            have t6 : decide ((t' : Int) < 0) = false := decide_eq_false hx0
            clear hs hx hf hge
            go_wp2_with ((go_at_call 48; refine (HCall.out t hit htn).mono ?_; rw [← HX.out]; rintro e w' ⟨rfl, rfl⟩))
            go_round
            case rel => exact ⟨j + 1, t', by omega, by go_num, rfl, by omega, by omega, by rw [HS.out, Int.toNat_natCast]⟩
            case measure => simp [intOf]; omega
        · obtain rfl : j = K := by omega
          rw [Nat.sub_self, fin_zero] at hf
          have HX := Lib.hid hf
          clear hf
          go_wp2
          go_ret
          exact ⟨ret_int HX.out, rfl⟩
theorem ref_end (v : Value) (ns : List Nd) (i : Int) (w : World) (h : NodesAt w v ns) (hn : ns.length ≤ 1000000) :
    Calls Try.prog 48 #[v, .int .i64 i] w fun e w' => e = .returned (.int .i64 (endI (kk ns) i)) ∧ w = w' := by
  obtain ⟨_, p, c, rfl, _, _, hp⟩ := h
  by_cases ho : i < 0 ∨ (ns.length : Int) ≤ i
  · have he := endI_out (kk ns) i (by rw [length_kk]; exact ho)
    rw [he]
    exact ref_out p _ c i w ho
  · obtain ⟨m, rfl⟩ : ∃ m : Nat, i = m := ⟨i.toNat, by omega⟩
    obtain ⟨b, off, rfl, _, hc⟩ := hp (by omega)
    rw [endI_nat]
    exact ref_end_in b off ns.length c (kk ns) w (length_kk ns) hn (fun j hj => hc.kids j hj) ns.length m (by omega) (by omega)
theorem ref_whole (v : Value) (ns : List Nd) (w : World) (h : NodesAt w v ns) (hn : ns.length ≤ 1000000) :
    Calls Try.prog 31 #[v] w fun e w' => e = .returned (.bool (wholeB (kk ns))) ∧ w = w' := by
  obtain ⟨p, c, hv⟩ : ∃ p c, v = .slice p ns.length c := by obtain ⟨_, p, c, hv, _⟩ := h; exact ⟨p, c, hv⟩
  subst hv
  by_cases h0 : ns = []
  · subst h0
    go_enter Try.func31, Try.ntmps31
    go_wp2
    go_ret
    exact ⟨ret_bool (by simp [kk, wholeB_nil]), rfl⟩
  · have hp : 0 < ns.length := List.length_pos_iff.2 h0
    have t0 : decide (0 < (ns.length : Int)) = true := decide_eq_true (by omega)
    have t1 : decide (0 < ns.length) = true := decide_eq_true (by omega)
    obtain ⟨n, hnn⟩ : ∃ n, n = ns.length := ⟨_, rfl⟩
    rw [← hnn] at h hp t0 t1 ⊢
    have HN := Lib.hid hnn
    clear hnn h0
    go_enter Try.func31, Try.ntmps31
    go_wp2_with ((go_at_call 48; refine (ref_end _ ns _ _ h hn).mono ?_; rintro e w' ⟨rfl, rfl⟩))
    go_ret
    exact ⟨ret_bool (by simp [wholeB, length_kk, HN.out]), rfl⟩
end Go.Proofs.Ytlalnmefppbebaa
