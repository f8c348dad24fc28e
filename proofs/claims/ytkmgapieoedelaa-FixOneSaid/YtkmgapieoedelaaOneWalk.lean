/- The walk of FixOne. -/
import Derived.Test.YtkmgapieoedelaaFixY
namespace Go.Proofs.FixMath
theorem fixes_rep (f : Fx) : ∀ n : Nat, fixesL [f] (List.replicate n f.op) = some (List.replicate n f) := by
  intro n
  induction n with
  | zero => rfl
  | succ n ih =>
    rw [List.replicate_succ, List.replicate_succ, fixesL, ih]
    simp [find]
theorem climb_rep {R : Fx → Bool} (f : Fx) (n : Nat) (hR : R f = true) (hf : fine f) (hn : n ≤ 40) : (f.side = 0 ∧ 1 < n ∧ climbL R [f] (List.replicate n f.op) = ([], 43)) ∨ ∃ c, climbL R [f] (List.replicate n f.op) = (c, 0) ∧ c.length = 2 * n + 1 ∧
    ((f.side = -1 ∧ ∀ k : Nat, k < n → c.getD k 0 = (n : Int) - 1 - k) ∨ (f.side = 1 ∧ ∀ k : Nat, k < n → c.getD (2 * k) 0 = (k : Int) ∧ c.getD (2 * k + 1) 0 = -1 - (k : Int)) ∨ (f.side = 0 ∧ n ≤ 1)) := by
  have hc : checkL R [f] = 0 := check_of (by simp) (fun g hg => by simp at hg; rw [hg]; exact hR) (by simp)
  have he : climbL R [f] (List.replicate n f.op) = boundL (bindL (List.replicate n f) 0) := by
    unfold climbL
    rw [if_neg (by simp [hc]), if_neg (by simp; omega), fixes_rep]
    rfl
  rw [he]
  have hlen : ∀ c, bindL (List.replicate n f) 0 = some c → c.length = 2 * n + 1 := fun c h => by rw [bindL_len h, List.length_replicate]
  rcases hf.2.2 with hs | hs | hs
  · obtain ⟨c, h1, h2⟩ := rep_left f hf hs n 0
    exact .inr ⟨c, by rw [h1]; rfl, hlen c h1, .inl ⟨hs, fun k hk => by rw [h2 k hk]; omega⟩⟩
  · by_cases h1 : 1 < n
    · exact .inl ⟨hs, h1, by rw [rep_none f hf n hs h1 0]; rfl⟩
    · obtain ⟨c, h2⟩ := rep_one f hf n (by omega) 0
      exact .inr ⟨c, by rw [h2]; rfl, hlen c h2, .inr (.inr ⟨hs, by omega⟩)⟩
  · obtain ⟨c, h1, h2⟩ := rep_right f hf hs n 0
    exact .inr ⟨c, by rw [h1]; rfl, hlen c h1, .inr (.inl ⟨hs, fun k hk => ⟨by rw [(h2 k hk).1]; omega, by rw [(h2 k hk).2]; omega⟩⟩)⟩
end Go.Proofs.FixMath
namespace Go.Proofs.Ytkmgapieoedelaa
open Go.Shelf Go.RowKit Go.Lib Go.Sort Go.Proofs.FixMath

theorem box_below {w w1 : World} {o : Obj} (h : Below (w.alloc o).heap.size (w.alloc o) w1) : Below w.heap.size w w1 := ((Below.refl _ _).alloc (Nat.le_refl _) _).trans (h.mono (by simp))
set_option maxRecDepth 100000 in
set_option maxHeartbeats 4000000 in
theorem one_walk (f : Fx) (a : Int) (w : World) (hf : f.op.size ≤ maxLen) : Calls Try.prog 8 #[fxV f, .int .i64 a] w (RB true w) := by
  have FB := Lib.hid (FixBlk.new w f)
  have CR := Lib.hid (fun W => fright_wide f W (by have : maxLen = 9223372036854775807 := rfl; omega))
  have hsz : f.op.size ≤ 9223372036854775807 := by have : maxLen = 9223372036854775807 := rfl; omega
  by_cases hn0 : a < 0
  · clear CR hf
    obtain ⟨f0, f1, f2⟩ := f
    unfold fxV
    simp only at FB hsz
    go_enter Try.func8, Try.ntmps8
    go_wp2_with fail
    refine (awake_any _).mono ?_
    rintro e w1 ⟨rfl, b1⟩
    have B1 := Lib.hid (box_below b1)
    clear b1
    go_wp2_with fail
    refine (awake_any _).mono ?_
    rintro e w2 ⟨rfl, b2⟩
    go_wp2
    go_ret
    exact ⟨rfl, B1.out.trans (b2.mono B1.out.size)⟩
  · by_cases hn40 : 40 < a
    · clear CR hf
      obtain ⟨f0, f1, f2⟩ := f
      unfold fxV
      simp only at FB hsz
      go_enter Try.func8, Try.ntmps8
      go_wp2_with fail
      refine (awake_any _).mono ?_
      rintro e w1 ⟨rfl, b1⟩
      have B1 := Lib.hid (box_below b1)
      clear b1
      go_wp2_with fail
      refine (awake_any _).mono ?_
      rintro e w2 ⟨rfl, b2⟩
      go_wp2
      go_ret
      exact ⟨rfl, B1.out.trans (b2.mono B1.out.size)⟩
    · obtain ⟨n, rfl⟩ : ∃ n : Nat, a = n := ⟨a.toNat, by omega⟩
      have n40 : n ≤ 40 := by omega
      clear hn0 hn40
      by_cases hr : rightF f = true
      · rw [hr] at CR
        by_cases hs : f.op.size ≤ 100
        · have d100 : decide ((100 : Int) < (f.op.size : Int)) = false := by simp; omega
          have MATH := Lib.hid (climb_rep f n hr (fine_of hr) n40)
          have SM : Small [f] := fun g hg => by simp at hg; rw [hg]; omega
          have CL := Lib.hid (fun v u W h1 h2 => climbs_any v u [f] (List.replicate n f.op) W h1 h2 (by simp) (by simp; omega) SM)
          obtain ⟨R, hR⟩ : ∃ R, R = climbL rightF [f] (List.replicate n f.op) := ⟨_, rfl⟩
          rw [← hR] at CL MATH
          have REP := Lib.hid (fun k => List.replicate_succ' (n := k) (a := f.op))
          obtain ⟨i0, hi, hz0, hz1, hz2⟩ := infoStr
          have HI := Lib.hid (And.intro hi (And.intro hz0 (And.intro hz1 hz2)))
          clear hi hz0 hz1 hz2 hR hf hr hs SM
          obtain ⟨f0, f1, f2⟩ := f
          unfold fxV
          simp only [fxV] at FB CR hsz d100 CL MATH REP
          go_enter Try.func8, Try.ntmps8
          go_wp2_with fail
          refine (awake_any _).mono ?_
          rintro e w1 ⟨rfl, b1⟩
          have B1 := Lib.hid (box_below b1)
          have K1 := Lib.hid (FB.out.below b1 (by simp))
          obtain ⟨q0, q1, q2⟩ := K1.out.cells
          simp only at q0 q1 q2
          clear b1
          go_wp2_with fail
          refine (CR.out _).mono ?_
          rintro e w2 ⟨rfl, b2⟩
          have B2 := Lib.hid (B1.out.trans (b2.mono B1.out.size))
          have K2 := Lib.hid (K1.out.below b2 K1.out.lt)
          clear b2 q0 q1 q2
          obtain ⟨q0, q1, q2⟩ := K2.out.cells
          simp only at q0 q1 q2
          have hlt2 := K2.out.lt
          have hne2 : w.heap.size ≠ w2.heap.size := by omega
          go_wp2
          go_loopw [5, 6] (fun s5 s6 wr => ∃ (k : Nat) (p : Option Addr) (c : Nat), k ≤ n ∧ s6 = .int .i64 k ∧ s5 = .slice p k c ∧ wr.ownsRow w2.heap.size 9 1 (.slice p k c) k (strCells (List.replicate k f0)) ∧ Below w2.heap.size w2 wr) (fun _ s6 _ => n - (intOf s6).toNat)
          case atStart => exact ⟨0, _, 0, Nat.zero_le _, rfl, rfl, World.ownsRow_made w2 #[] 0 (Nat.le_refl _) (Nat.zero_le _) rfl, (Below.refl _ _).alloc (Nat.le_refl _) _⟩
          case round =>
            obtain ⟨wo, hwo⟩ : ∃ wo : World, wo = wr := ⟨_, rfl⟩
            subst hwo
            obtain ⟨k, p, c, hk, rfl, rfl, hown, hbel⟩ := hrel
            have HO := Lib.hid hown
            have HB := Lib.hid hbel
            have K3 := Lib.hid (K2.out.below hbel K2.out.lt)
            clear q0 q1 q2 hown hbel
            obtain ⟨q0, q1, q2⟩ := K3.out.cells
            simp only at q0 q1 q2
            have hltw := K3.out.lt
            have hnew : w.heap.size ≠ wo.heap.size := by omega
            by_cases hlt : k < n
            · have s1 : (k : Int) < (n : Int) := by omega
              have BA : Hid (Below wo.heap.size wo (wo.alloc (.cells #[.string f0] 9))) := Lib.hid ((Below.refl _ _).alloc (Nat.le_refl _) _)
              have OW := Lib.hid (World.ownsRow.keep (w' := wo.alloc (.cells #[.string f0] 9)) HO.out fun g hg => BA.out.block g (World.ownsRow.there HO.out hg).2)
              have HM : Hid (k + 1 ≤ maxLen ∧ (k + 1) * 16 ≤ 140737488355328) := Lib.hid ⟨by unfold maxLen; omega, by omega⟩
              go_wp2_with (at_builtin; refine wpList_append_any _ rfl _ _ 27 rfl w2.heap.size 9 i0 (.string ByteArray.empty) 1 16 Try.underlying27 HI.out.1 HI.out.2.1 HI.out.2.2.1 HI.out.2.2.2 rfl (by decide) (.slice p k c) k (strCells (List.replicate k f0)) rfl OW.out (some ⟨wo.heap.size, 0, none⟩) 1 1 [.string f0] rfl rfl (fun _ => ⟨_, rfl, cell_one_new _ _ _⟩) (by simp [Value.oneCell']) HM.out.1 HM.out.2 (Nat.le_trans HB.out.size BA.out.size) ?_; intro p' cap' w3 hown hgrow hblk; have HO3 := Lib.hid hown; have HG3 := Lib.hid hgrow; clear hown hgrow hblk)
              go_roundw
              case rel =>
                refine ⟨k + 1, p', cap', by omega, by go_num, rfl, ?_, (HB.out.trans (BA.out.mono HB.out.size)).grown HG3.out (Nat.le_trans HB.out.size BA.out.size) fun _ hg => (World.ownsRow.there OW.out hg).1⟩
                rw [REP.out]
                simpa [strCells] using HO3.out
              case measure => simp [intOf]; omega
            · obtain rfl : k = n := by omega
              have SL := lit_fix wo [⟨f0, f1, f2⟩] #[.string f0, .int .i64 f1, .int .i64 f2] 1 rfl rfl (by omega)
              have BL : Hid (Below wo.heap.size wo (wo.alloc (.cells #[.string f0, .int .i64 f1, .int .i64 f2] 24))) := Lib.hid ((Below.refl _ _).alloc (Nat.le_refl _) _)
              have ST : StrsAt wo (.slice p k c) (List.replicate k f0) := by
                have := SliceAt.of_owns HO.out
                unfold StrsAt
                rw [List.length_replicate]
                exact this
              have CC := Lib.hid (CL.out _ _ _ SL (ST.below BL.out))
              obtain ⟨xs, x⟩ := R
              clear SL ST
              go_wp2_with fail
              refine CC.out.mono ?_
              rintro e w4 ⟨v4, rfl, i4, b4⟩
              obtain ⟨p4, c4, rfl⟩ := ints_form i4
              have B4 := Lib.hid (B2.out.trans (((HB.out.trans (BL.out.mono HB.out.size)).trans (b4.mono (Nat.le_trans HB.out.size BL.out.size))).mono B2.out.size))
              have K4 := Lib.hid ((K3.out.below BL.out K3.out.lt).below b4 (Nat.lt_of_lt_of_le K3.out.lt BL.out.size))
              clear q0 q1 q2 b4 hne2 hnew hltw hlt2
              obtain ⟨q0, q1, q2⟩ := K4.out.cells
              simp only at q0 q1 q2 i4
              simp only
              rcases MATH.out with ⟨hs, h1, he⟩ | ⟨cc, he, hlen, hcase⟩
              · simp only [Prod.mk.injEq] at he
                obtain ⟨rfl, rfl⟩ := he
                subst hs
                have s1 : (1 : Int) < (k : Int) := by omega
                simp only [List.length_nil]
                clear hlt hk
                go_wp2
                go_ret
                exact ⟨rfl, B4.out⟩
              · simp only [Prod.mk.injEq] at he
                obtain ⟨rfl, rfl⟩ := he
                obtain ⟨N, hN⟩ : ∃ N, N = xs.length := ⟨_, rfl⟩
                rw [← hN] at hlen i4 ⊢
                obtain ⟨bb, off, rfl, hbb, hcc⟩ := ints_at i4 (by omega)
                have HC := Lib.hid hcc
                have HN := Lib.hid hN
                have HL := Lib.hid hlen
                have t1 : ((N : Int) != 2 * (k : Int) + 1) = false := by simp; omega
                have kN : Hid (2 * k + 1 = N) := Lib.hid hlen.symm
                clear hcc hN hlen i4 hlt hk
                rcases hcase with ⟨hs, hget⟩ | ⟨hs, hget⟩ | ⟨hs, h1⟩
                · subst hs
                  have GET := Lib.hid hget
                  clear hget
                  rcases (show (1 : Int) < (k : Int) ∨ ¬ (1 : Int) < (k : Int) by omega) with s0 | s0
                  · go_wp2
                    go_loopw [9] (fun s9 wr => ∃ j : Nat, j ≤ k ∧ s9 = .int .i64 j ∧ wr = w4) (fun s9 _ => k - (intOf s9).toNat)
                    case atStart => exact ⟨0, Nat.zero_le _, rfl, rfl⟩
                    case round =>
                      obtain ⟨j, hj, rfl, rfl⟩ := hrel
                      by_cases hjk : j < k
                      · have z := HC.out.int j (by rw [← HN.out, HL.out]; omega)
                        rw [GET.out j hjk] at z
                        have s1 : (j : Int) < (k : Int) := by omega
                        have s2 : (j : Int) < (N : Int) := by have := kN.out; omega
                        go_wp2
                        go_roundw
                        case rel => exact ⟨j + 1, by omega, by go_num, by first | trivial | rfl⟩
                        case measure => simp [intOf]; omega
                      · obtain rfl : j = k := by omega
                        go_wp2
                        go_ret
                        exact ⟨rfl, B4.out⟩
                  · go_wp2
                    go_loopw [9] (fun s9 wr => ∃ j : Nat, j ≤ k ∧ s9 = .int .i64 j ∧ wr = w4) (fun s9 _ => k - (intOf s9).toNat)
                    case atStart => exact ⟨0, Nat.zero_le _, rfl, rfl⟩
                    case round =>
                      obtain ⟨j, hj, rfl, rfl⟩ := hrel
                      by_cases hjk : j < k
                      · have z := HC.out.int j (by rw [← HN.out, HL.out]; omega)
                        rw [GET.out j hjk] at z
                        have s1 : (j : Int) < (k : Int) := by omega
                        have s2 : (j : Int) < (N : Int) := by have := kN.out; omega
                        go_wp2
                        go_roundw
                        case rel => exact ⟨j + 1, by omega, by go_num, by first | trivial | rfl⟩
                        case measure => simp [intOf]; omega
                      · obtain rfl : j = k := by omega
                        go_wp2
                        go_ret
                        exact ⟨rfl, B4.out⟩
                · subst hs
                  have GET := Lib.hid hget
                  clear hget
                  rcases (show (1 : Int) < (k : Int) ∨ ¬ (1 : Int) < (k : Int) by omega) with s0 | s0
                  · go_wp2
                    go_loopw [9] (fun s9 wr => ∃ j : Nat, j ≤ k ∧ s9 = .int .i64 j ∧ wr = w4) (fun s9 _ => k - (intOf s9).toNat)
                    case atStart => exact ⟨0, Nat.zero_le _, rfl, rfl⟩
                    case round =>
                      obtain ⟨j, hj, rfl, rfl⟩ := hrel
                      by_cases hjk : j < k
                      · have z := HC.out.int (2 * j) (by rw [← HN.out, HL.out]; omega)
                        have z' := HC.out.int (2 * j + 1) (by rw [← HN.out, HL.out]; omega)
                        rw [(GET.out j hjk).1] at z
                        rw [(GET.out j hjk).2] at z'
                        have s1 : (j : Int) < (k : Int) := by omega
                        have s2 : 2 * (j : Int) < (N : Int) := by have := kN.out; omega
                        have s3 : 2 * (j : Int) + 1 < (N : Int) := by have := kN.out; omega
                        go_wp2
                        go_roundw
                        case rel => exact ⟨j + 1, by omega, by go_num, by first | trivial | rfl⟩
                        case measure => simp [intOf]; omega
                      · obtain rfl : j = k := by omega
                        go_wp2
                        go_ret
                        exact ⟨rfl, B4.out⟩
                  · go_wp2
                    go_loopw [9] (fun s9 wr => ∃ j : Nat, j ≤ k ∧ s9 = .int .i64 j ∧ wr = w4) (fun s9 _ => k - (intOf s9).toNat)
                    case atStart => exact ⟨0, Nat.zero_le _, rfl, rfl⟩
                    case round =>
                      obtain ⟨j, hj, rfl, rfl⟩ := hrel
                      by_cases hjk : j < k
                      · have z := HC.out.int (2 * j) (by rw [← HN.out, HL.out]; omega)
                        have z' := HC.out.int (2 * j + 1) (by rw [← HN.out, HL.out]; omega)
                        rw [(GET.out j hjk).1] at z
                        rw [(GET.out j hjk).2] at z'
                        have s1 : (j : Int) < (k : Int) := by omega
                        have s2 : 2 * (j : Int) < (N : Int) := by have := kN.out; omega
                        have s3 : 2 * (j : Int) + 1 < (N : Int) := by have := kN.out; omega
                        go_wp2
                        go_roundw
                        case rel => exact ⟨j + 1, by omega, by go_num, by first | trivial | rfl⟩
                        case measure => simp [intOf]; omega
                      · obtain rfl : j = k := by omega
                        go_wp2
                        go_ret
                        exact ⟨rfl, B4.out⟩
                · subst hs
                  have s1 : ¬ (1 : Int) < (k : Int) := by omega
                  go_wp2
                  go_loopw [9] (fun s9 wr => ∃ j : Nat, j ≤ k ∧ s9 = .int .i64 j ∧ wr = w4) (fun s9 _ => k - (intOf s9).toNat)
                  case atStart => exact ⟨0, Nat.zero_le _, rfl, rfl⟩
                  case round =>
                    obtain ⟨j, hj, rfl, rfl⟩ := hrel
                    by_cases hjk : j < k
                    · have s1 : (j : Int) < (k : Int) := by omega
                      go_wp2
                      go_roundw
                      case rel => exact ⟨j + 1, by omega, by go_num, by first | trivial | rfl⟩
                      case measure => simp [intOf]; omega
                    · obtain rfl : j = k := by omega
                      go_wp2
                      go_ret
                      exact ⟨rfl, B4.out⟩
        · have d100 : decide ((100 : Int) < (f.op.size : Int)) = true := by simp; omega
          clear hr hs hf
          obtain ⟨f0, f1, f2⟩ := f
          unfold fxV
          simp only [fxV] at FB CR hsz d100
          go_enter Try.func8, Try.ntmps8
          go_wp2_with fail
          refine (awake_any _).mono ?_
          rintro e w1 ⟨rfl, b1⟩
          have B1 := Lib.hid (box_below b1)
          have K1 := Lib.hid (FB.out.below b1 (by simp))
          obtain ⟨q0, q1, q2⟩ := K1.out.cells
          simp only at q0 q1 q2
          clear b1
          go_wp2_with fail
          refine (CR.out _).mono ?_
          rintro e w2 ⟨rfl, b2⟩
          have B2 := Lib.hid (B1.out.trans (b2.mono B1.out.size))
          have K2 := Lib.hid (K1.out.below b2 K1.out.lt)
          clear b2 q0 q1 q2
          obtain ⟨q0, q1, q2⟩ := K2.out.cells
          simp only at q0 q1 q2
          go_wp2_with fail
          refine (awake_any _).mono ?_
          rintro e w3 ⟨rfl, b3⟩
          clear q0 q1 q2
          go_wp2
          go_ret
          exact ⟨rfl, B2.out.trans (b3.mono B2.out.size)⟩
      · have hr' : rightF f = false := by simpa using hr
        rw [hr'] at CR
        clear hr hr' hf
        obtain ⟨f0, f1, f2⟩ := f
        unfold fxV
        simp only [fxV] at FB CR hsz
        go_enter Try.func8, Try.ntmps8
        go_wp2_with fail
        refine (awake_any _).mono ?_
        rintro e w1 ⟨rfl, b1⟩
        have B1 := Lib.hid (box_below b1)
        have K1 := Lib.hid (FB.out.below b1 (by simp))
        obtain ⟨q0, q1, q2⟩ := K1.out.cells
        simp only at q0 q1 q2
        clear b1
        go_wp2_with fail
        refine (CR.out _).mono ?_
        rintro e w2 ⟨rfl, b2⟩
        have B2 := Lib.hid (B1.out.trans (b2.mono B1.out.size))
        clear b2 q0 q1 q2
        go_wp2_with fail
        refine (awake_any _).mono ?_
        rintro e w3 ⟨rfl, b3⟩
        go_wp2
        go_ret
        exact ⟨rfl, B2.out.trans (b3.mono B2.out.size)⟩
end Go.Proofs.Ytkmgapieoedelaa
