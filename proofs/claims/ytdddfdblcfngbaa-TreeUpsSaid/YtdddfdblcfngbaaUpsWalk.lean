/- The walks of the law TreeUps. -/
import Derived.Test.YtdddfdblcfngbaaAwake
import Derived.Deep.RegionWith
namespace Go.Proofs.Ytdddfdblcfngbaa
open Go.RowKit Go.Proofs.TreeMath
def cnt (ks : List Int) (j : Nat) : Nat := ((ks.take j).map Int.toNat).sum
theorem cnt_succ (ks : List Int) (j : Nat) (h : j < ks.length) : cnt ks (j + 1) = cnt ks j + (ks.getD j 0).toNat := by
  unfold cnt
  rw [List.take_succ_eq_append_getElem h, List.map_append, List.sum_append, List.getD_eq_getElem?_getD, List.getElem?_eq_getElem h]
  simp
theorem cnt_mono (ks : List Int) (j : Nat) : cnt ks j ≤ cnt ks ks.length := by
  unfold cnt
  rw [List.take_length]
  have h := congrArg (fun x => (List.map Int.toNat x).sum) (List.take_append_drop j ks)
  simp only [List.map_append, List.sum_append] at h
  omega
theorem cnt_all (ks : List Int) (h : wholeB ks = true) : cnt ks ks.length + 1 = ks.length := by
  unfold cnt
  rw [List.take_length]
  exact sum_kids ks 1 ((wholeB_iff ks).1 h)
theorem ups_long (p : Option Addr) (n c : Nat) (w : World) (hn : 40 < n) : Calls Try.prog 7 #[.slice p n c] w (BRet w true) := by
  go_enter Try.func7, Try.ntmps7
  go_wp2_with fail
  refine (awake_any _).mono ?_
  rintro e w1 ⟨y, rfl, rfl, b⟩
  go_wp2_with fail
  refine (awake_any _).mono ?_
  rintro e w2 ⟨y, rfl, rfl, b2⟩
  go_wp2_with fail
  go_ret
  exact ⟨_, rfl, rfl, b.trans (b2.mono b.size)⟩
set_option maxHeartbeats 4000000 in
theorem ups_no (p : Option Addr) (n c : Nat) (ns : List Nd) (w : World) (hn : n ≤ 40) (h : NodesAt w (.slice p n c) ns) (hl : Hid (ns.length = n)) (hW : Hid (wholeB (kk ns) = false)) :
    Calls Try.prog 7 #[.slice p n c] w (BRet w true) := by
  go_enter Try.func7, Try.ntmps7
  go_wp2_with fail
  refine (awake_any _).mono ?_
  rintro e w1 ⟨y, rfl, rfl, b⟩
  go_wp2_with fail
  refine (own_any _ ns _ (h.below b) (by rw [hl.out]; omega)).mono ?_
  rintro e w2 ⟨v2, rfl, h2, b2⟩
  replace b2 := b.trans (b2.mono b.size)
  clear b
  go_wp2_with fail
  refine (whole_any _ ns _ h2 (by rw [hl.out]; omega)).mono ?_
  rintro e w3 ⟨rfl, rfl⟩
  rw [hW.out]
  go_wp2_with fail
  refine (awake_any _).mono ?_
  rintro e w4 ⟨y, rfl, rfl, b4⟩
  go_wp2_with fail
  go_ret
  exact ⟨_, rfl, rfl, b2.trans (b4.mono b2.size)⟩
set_option maxHeartbeats 8000000 in
theorem ups_yes (p : Option Addr) (n c : Nat) (ns : List Nd) (w : World) (hn : n ≤ 40) (h : NodesAt w (.slice p n c) ns) (hl : Hid (ns.length = n)) (hW : Hid (wholeB (kk ns) = true)) :
    Calls Try.prog 7 #[.slice p n c] w (BRet w true) := by
  go_enter Try.func7, Try.ntmps7
  go_wp2_with fail
  refine (awake_any _).mono ?_
  rintro e w1 ⟨y, rfl, rfl, b⟩
  go_wp2_with fail
  refine (own_any _ ns _ (h.below b) (by rw [hl.out]; omega)).mono ?_
  rintro e w2 ⟨v2, rfl, h2, b2⟩
  replace b2 := b.trans (b2.mono b.size)
  clear b
  go_wp2_with fail
  refine (whole_any _ ns _ h2 (by rw [hl.out]; omega)).mono ?_
  rintro e w3 ⟨rfl, rfl⟩
  rw [hW.out]
  clear h2
  go_wp2_with fail
  go_loopw [3, 4] (fun s t wr => ∃ j A : Nat, j ≤ n ∧ t = .int .i64 j ∧ s = .int .i64 A ∧ A ≤ 40 ∧ A = cnt (kk ns) j ∧ Below w.heap.size w wr) (fun _ t _ => n - (intOf t).toNat)
  case atStart => exact ⟨0, 0, Nat.zero_le _, rfl, rfl, by omega, rfl, b2⟩
  case round =>
    obtain ⟨j, A, hj, rfl, rfl, hA40, hA, hbel⟩ := hrel
    have HA := Lib.hid hA
    clear hA
    by_cases hlt : j < n
    · have hjl : j < (kk ns).length := by rw [length_kk, hl.out]; exact hlt
      have hfin := whole_sub (kk ns) hW.out j hjl
      obtain ⟨XS, hXS⟩ : ∃ XS, XS = kidsI (kk ns) j := ⟨_, rfl⟩
      obtain ⟨N, hN⟩ : ∃ N, N = XS.length := ⟨_, rfl⟩
      have hNk : ((kk ns).getD j 0).toNat = N := by rw [hN, hXS]; exact (subK_parts (kk ns) j hfin).2.1
      have hcs := cnt_succ (kk ns) j hjl
      rw [hNk] at hcs
      have hcm := cnt_mono (kk ns) (j + 1)
      have hca := cnt_all (kk ns) hW.out
      rw [length_kk, hl.out] at hca hcm
      have hAN : A + N ≤ 40 := by have := HA.out; omega
      have HS : Hid (A + N = cnt (kk ns) (j + 1)) := Lib.hid (by have := HA.out; omega)
      have HX := Lib.hid hXS
      have HN := Lib.hid hN
      clear hcs hcm hca hNk hXS hN hfin hjl
      go_wp2_with fail
      refine (own_any _ ns _ (h.below hbel) (by rw [hl.out]; omega)).mono ?_
      rintro e w4 ⟨v4, rfl, h4, b4⟩
      replace b4 := hbel.trans (b4.mono hbel.size)
      go_wp2_with fail
      refine (kids_any _ ns _ _ h4 (by rw [hl.out]; omega)).mono ?_
      rintro e w5 ⟨v5, rfl, h5, b5⟩
      replace b5 := b4.trans (b5.mono b4.size)
      clear b4 h4
      rw [← HX.out] at h5
      obtain ⟨q, cq, hvq, hcell⟩ := ints_one h5
      have hNl : (ofNats XS).length = N := by simp [ofNats, HN.out]
      rw [hNl] at hvq hcell
      subst hvq
      have HC := Lib.hid hcell
      have HV := Lib.hid h5
      clear hcell h5 hNl
      go_wp2_with fail
      go_loopw [6] (fun t wr2 => ∃ m : Nat, m ≤ N ∧ t = .int .i64 m ∧ Below w.heap.size w wr2 ∧ Below w5.heap.size w5 wr2) (fun t _ => N - (intOf t).toNat)
      case atStart => exact ⟨0, Nat.zero_le _, rfl, b5, Below.refl _ _⟩
      case round =>
        obtain ⟨m, hm, rfl, hbw, hb5⟩ := hrel
        by_cases hlt2 : m < N
        · obtain ⟨b2', off2, rfl, hb2, hc2⟩ := HC.out m hlt2
          have hc3 := (hb5.cell (p := ⟨b2', off2 + m, none⟩) hb2).trans hc2
          have hml : m < XS.length := by rw [← HN.out]; exact hlt2
          obtain ⟨s, hs⟩ : ∃ s, s = XS[m] := ⟨_, rfl⟩
          have hmem : s ∈ kidsI (kk ns) j := by rw [hs, ← HX.out]; exact List.getElem_mem hml
          have hr := kid_range (kk ns) j s hmem
          have he : (ofNats XS).getD m 0 = (s : Int) := by
            rw [hs]
            simp [ofNats, List.getD_eq_getElem?_getD, List.getElem?_eq_getElem hml]
          rw [he] at hc3
          have hjs : j < s := hr.1
          have hup : UpIs (kk ns) s j := .inl ⟨j, rfl, by rw [length_kk, hl.out]; exact hlt, (mem_ofNats _ _).2 ⟨s, rfl, hmem⟩⟩
          have HU := Lib.hid hup
          have hnode := h.below hbw
          have t1 : decide ((s : Int) ≤ (j : Int)) = false := decide_eq_false (by omega)
          have t2 : decide (s ≤ j) = false := decide_eq_false (by omega)
          have hblk : b2' < wr.heap.size := Nat.lt_of_lt_of_le hb2 hb5.size
          clear hc2 he hs hmem hr hup
          have t3 : ((j : Int) != (j : Int)) = false := by simp
          go_wp2_with fail
          go_region_with (first
            | (go_at_call 12; refine (own_any _ ns _ ?_ (by rw [hl.out]; omega)).mono ?_; exact hnode.below (Below.refl _ _).drew; rintro e w6 ⟨v6, rfl, h6, b6⟩; have c6 : w6.cell? ⟨b2', off2 + m, none⟩ = some (.int .i64 s) := (b6.cell (p := ⟨b2', off2 + m, none⟩) hblk).trans hc3)
            | (go_at_call 27; refine (up_whole _ ns s _ h6 (by rw [hl.out]; omega) hW.out).mono ?_; rintro e w7 ⟨u2, hu2, rfl, b7⟩; obtain rfl : u2 = (j : Int) := upIs_uniq _ _ _ _ hu2 HU.out; clear hu2))
          all_goals
            have bs : Below wr.heap.size wr w7 := ((Below.refl _ wr).drew.trans b6).trans (b7.mono b6.size)
            clear h6 c6 b6 b7
            go_wp2_with fail
            go_roundw
            case rel => exact ⟨m + 1, by omega, by go_num, hbw.trans (bs.mono hbw.size), hb5.trans (bs.mono hb5.size)⟩
            case measure => simp [intOf]; omega
        · obtain rfl : m = N := by omega
          go_wp2_with fail
          go_roundw
          case rel => exact ⟨j + 1, A + m, by omega, by go_num, by go_num, by omega, HS.out, hbw⟩
          case measure => simp [intOf]; omega
    · obtain rfl : j = n := by omega
      have hca := cnt_all (kk ns) hW.out
      have hAn : A + 1 = j := by
        have := HA.out
        rw [length_kk, hl.out] at hca
        omega
      clear hca HA
      subst hAn
      have t4 : ((A : Int) == ((A + 1 : Nat) : Int) - 1) = true := by simp
      go_wp2_with fail
      refine (own_any _ ns _ (h.below hbel) (by rw [hl.out]; omega)).mono ?_
      rintro e w4 ⟨v4, rfl, h4, b4⟩
      replace b4 := hbel.trans (b4.mono hbel.size)
      go_wp2_with fail
      refine (up_not _ ns 0 _ h4 (by rw [hl.out]; omega) (.inl (Int.le_refl 0))).mono ?_
      rintro e w5 ⟨rfl, rfl⟩
      go_wp2_with fail
      go_ret
      exact ⟨_, rfl, rfl, b4⟩
theorem ups_walk (v : Value) (ns : List Nd) (w : World) (h : NodesAt w v ns) : Calls Try.prog 7 #[v] w (BRet w true) := by
  obtain ⟨p, c, hv⟩ : ∃ p c, v = .slice p ns.length c := by obtain ⟨_, p, c, hv, _⟩ := h; exact ⟨p, c, hv⟩
  subst hv
  by_cases h40 : 40 < ns.length
  · exact ups_long p _ c w h40
  · cases hW : wholeB (kk ns) with
    | false => exact ups_no p _ c ns w (by omega) h rfl hW
    | true => exact ups_yes p _ c ns w (by omega) h rfl hW
end Go.Proofs.Ytdddfdblcfngbaa
