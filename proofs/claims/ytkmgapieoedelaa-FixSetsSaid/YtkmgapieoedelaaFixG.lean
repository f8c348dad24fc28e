/- The contract of root: an operator's place, or -1. -/
import Derived.Test.YtkmgapieoedelaaFixM
namespace Go.Proofs.Ytkmgapieoedelaa
open Go.Shelf Go.RowKit Go.Lib Go.Sort Go.Proofs.FixMath

theorem drop_fx {ps : List Fx} {k : Nat} (h : k < ps.length) : ps.drop k = ps.getD k default :: ps.drop (k + 1) := by
  rw [get_fx k h]; exact List.drop_eq_getElem_cons h
theorem scan_high {low s : Int} {i : Nat} {a : Int} {f : Fx} {fs : List Fx} (h : low < f.level) : scanL low s i a (f :: fs) = scanL low s (i + 1) a fs := by rw [scanL, if_pos h]
theorem scan_first {low s : Int} {i : Nat} {a : Int} {f : Fx} {fs : List Fx} (h : ¬ low < f.level) (ha : a < 0) : scanL low s i a (f :: fs) = scanL low s (i + 1) i fs := by rw [scanL, if_neg h, if_pos ha]
theorem scan_clash {low s : Int} {i : Nat} {a : Int} {f : Fx} {fs : List Fx} (h : ¬ low < f.level) (ha : ¬ a < 0) (hs : f.side = 0 ∨ ¬ f.side = s) : scanL low s i a (f :: fs) = -1 := by rw [scanL, if_neg h, if_neg ha, if_pos hs]
theorem scan_left {low s : Int} {i : Nat} {a : Int} {f : Fx} {fs : List Fx} (h : ¬ low < f.level) (ha : ¬ a < 0) (hs : ¬ (f.side = 0 ∨ ¬ f.side = s)) (hd : f.side < 0) : scanL low s i a (f :: fs) = scanL low s (i + 1) i fs := by rw [scanL, if_neg h, if_neg ha, if_neg hs, if_pos hd]
theorem scan_stay {low s : Int} {i : Nat} {a : Int} {f : Fx} {fs : List Fx} (h : ¬ low < f.level) (ha : ¬ a < 0) (hs : ¬ (f.side = 0 ∨ ¬ f.side = s)) (hd : ¬ f.side < 0) : scanL low s i a (f :: fs) = scanL low s (i + 1) a fs := by rw [scanL, if_neg h, if_neg ha, if_neg hs, if_neg hd]
set_option maxRecDepth 100000 in
set_option maxHeartbeats 2000000 in
theorem root_go (b off n c : Nat) (ps : List Fx) (w : World) (hl : Hid (ps.length = n)) (h0 : 0 < n) (hn : n ≤ 1000000) (hf : Hid (∀ f ∈ ps, fine f)) (hb : b < w.heap.size) (hc : Hid (CellsIn w b off (fxCells ps))) : Calls Try.prog 53 #[.slice (some ⟨b, off, none⟩) n c] w (IRet (optI (root ps)) w) := by
  obtain ⟨R, hR⟩ : ∃ R, R = optI (root ps) := ⟨_, rfl⟩
  rw [← hR]
  have HRt := Lib.hid hR
  clear hR
  go_enter Try.func53, Try.ntmps53
  go_wp2
  go_step3
  go_wp2_with fail
  refine (min_go b off n c ps _ hl h0 hn hf hb hc).mono ?_
  rintro e w1 ⟨k0, hk0, m1, m2, rfl, b1⟩
  have HS := Lib.hid ((scanL_root ps k0 hf.out hk0 m1 m2).trans HRt.out.symm)
  have B1 := Lib.hid b1
  have hb1 : b < w1.heap.size := Nat.lt_of_lt_of_le hb b1.size
  have HC := Lib.hid (hc.out.below hb b1)
  obtain ⟨m, hm⟩ : ∃ m, m = ps.getD k0 default := ⟨_, rfl⟩
  rw [← hm] at HS ⊢
  have fm : fine m := by rw [hm]; exact hf.out _ (getD_mem hk0)
  have HM := Lib.hid fm
  have NB := Lib.hid (FixBlk.new w1 m)
  have BN : Hid (Below w1.heap.size w1 (w1.alloc (.cells #[.string m.op, .int .i64 m.level, .int .i64 m.side] 24))) := Lib.hid ((Below.refl _ _).alloc (Nat.le_refl _) _)
  obtain ⟨mo, ml, ms⟩ := m
  unfold fxV
  simp only at NB HS HM BN ⊢
  clear hk0 m1 m2 hm b1 fm
  go_wp2
  go_step3
  go_wp2
  go_loopw [4, 11] (fun s4 s11 wr => ∃ (k : Nat) (a : Int), k ≤ n ∧ -1 ≤ a ∧ a ≤ n ∧ s11 = .int .i64 k ∧ s4 = .int .i64 a ∧ FixBlk wr w1.heap.size ⟨mo, ml, ms⟩ ∧ Below w1.heap.size w1 wr ∧ scanL ml ms k a (ps.drop k) = R) (fun _ s11 _ => n - (intOf s11).toNat)
  case atStart => exact ⟨0, -1, Nat.zero_le _, by omega, by omega, rfl, rfl, NB.out, BN.out, by rw [List.drop_zero]; exact HS.out⟩
  case round =>
    obtain ⟨wo, hwo⟩ : ∃ wo : World, wo = wr := ⟨_, rfl⟩
    subst hwo
    obtain ⟨k, a, hk, ha1, ha2, rfl, rfl, hblk, hbel, hsc⟩ := hrel
    have SC := Lib.hid hsc
    have HB := Lib.hid hbel
    have hgo : w1.heap.size < wo.heap.size := hblk.lt
    clear hsc NB BN HS
    by_cases hlt : k < n
    · obtain ⟨q0, q1, q2⟩ := (HC.out.below hb1 hbel).fx k (by rw [hl.out]; exact hlt)
      obtain ⟨x, hxk⟩ : ∃ x, x = ps.getD k default := ⟨_, rfl⟩
      rw [← hxk] at q0 q1 q2
      have fx : fine x := by rw [hxk]; exact hf.out _ (getD_mem (by rw [hl.out]; exact hlt))
      have HX := Lib.hid hxk
      have DR := Lib.hid ((drop_fx (ps := ps) (k := k) (by rw [hl.out]; exact hlt)).trans (by rw [← hxk]))
      obtain ⟨x0, x1, x2⟩ := x
      obtain ⟨f1, f2, f3⟩ := fx
      simp only at q0 q1 q2 f1 f2 f3
      have SC2 := Lib.hid SC.out
      rw [DR.out] at SC2
      obtain ⟨c0, c1, c2⟩ := hblk.cells
      have EB := Lib.hid hblk
      simp only at c0 c1 c2
      clear hxk hblk hbel SC
      have s3 : (k : Int) < (n : Int) := by omega
      have bst : Hid (Below w1.heap.size w1 (wo.alloc (.cells #[.string x0, .int .i64 x1, .int .i64 x2] 24))) := Lib.hid (HB.out.alloc HB.out.size _)
      have ebt : Hid (FixBlk (wo.alloc (.cells #[.string x0, .int .i64 x1, .int .i64 x2] 24)) w1.heap.size ⟨mo, ml, ms⟩) := Lib.hid (EB.out.below ((Below.refl _ _).alloc (Nat.le_refl _) _) hgo)
      have hne : w1.heap.size ≠ wo.heap.size := by omega
      by_cases g1 : ml < x1
      · have E := Lib.hid ((scan_high (f := ⟨x0, x1, x2⟩) (fs := ps.drop (k + 1)) (low := ml) (s := ms) (i := k) (a := a) g1).symm.trans SC2.out)
        go_wp2
        go_roundw
        case rel => exact ⟨k + 1, a, by omega, ha1, ha2, by go_num, rfl, ebt.out, bst.out, E.out⟩
        case measure => simp [intOf]; omega
      · have G1 := Lib.hid g1
        by_cases g2 : a < 0
        · have E := Lib.hid ((scan_first (f := ⟨x0, x1, x2⟩) (fs := ps.drop (k + 1)) (low := ml) (s := ms) (i := k) (a := a) g1 g2).symm.trans SC2.out)
          go_wp2
          go_roundw
          case rel => exact ⟨k + 1, k, by omega, by omega, by omega, by go_num, rfl, ebt.out, bst.out, E.out⟩
          case measure => simp [intOf]; omega
        · by_cases g3 : x2 = 0
          · have E := Lib.hid ((scan_clash (f := ⟨x0, x1, x2⟩) (fs := ps.drop (k + 1)) (low := ml) (s := ms) (i := k) (a := a) g1 g2 (.inl g3)).symm.trans SC2.out)
            have g4 : (x2 == 0) = true := by simpa using g3
            clear g3
            go_wp2
            (try rw [Exit.noGoto_ret])
            go_ret
            exact ⟨by rw [← E.out]; try rfl, B1.out.trans (bst.out.mono B1.out.size)⟩
          · by_cases g5 : x2 = ms
            · have g4 : (x2 == 0) = false := by simpa using g3
              have g6 : (x2 == ms) = true := by simpa using g5
              have g7 : (x2 != ms) = false := by simp [g5]
              have hs : ¬ (x2 = 0 ∨ ¬ x2 = ms) := by omega
              by_cases g8 : x2 < 0
              · have E := Lib.hid ((scan_left (f := ⟨x0, x1, x2⟩) (fs := ps.drop (k + 1)) (low := ml) (s := ms) (i := k) (a := a) g1 g2 hs g8).symm.trans SC2.out)
                clear g3 g5 hs
                go_wp2
                go_roundw
                case rel => exact ⟨k + 1, k, by omega, by omega, by omega, by go_num, rfl, ebt.out, bst.out, E.out⟩
                case measure => simp [intOf]; omega
              · have E := Lib.hid ((scan_stay (f := ⟨x0, x1, x2⟩) (fs := ps.drop (k + 1)) (low := ml) (s := ms) (i := k) (a := a) g1 g2 hs g8).symm.trans SC2.out)
                clear g3 g5 hs
                go_wp2
                go_roundw
                case rel => exact ⟨k + 1, a, by omega, by omega, by omega, by go_num, rfl, ebt.out, bst.out, E.out⟩
                case measure => simp [intOf]; omega
            · have E := Lib.hid ((scan_clash (f := ⟨x0, x1, x2⟩) (fs := ps.drop (k + 1)) (low := ml) (s := ms) (i := k) (a := a) g1 g2 (.inr g5)).symm.trans SC2.out)
              have g4 : (x2 == 0) = false := by simpa using g3
              have g6 : (x2 == ms) = false := by simpa using g5
              have g7 : (x2 != ms) = true := by simpa using g5
              clear g3 g5
              go_wp2
              (try rw [Exit.noGoto_ret])
              go_ret
              exact ⟨by rw [← E.out]; try rfl, B1.out.trans (bst.out.mono B1.out.size)⟩
    · have e := SC.out
      rw [List.drop_of_length_le (by rw [hl.out]; omega), scanL] at e
      have E := Lib.hid e
      clear e hblk hbel
      go_wp2
      (try rw [Exit.noGoto_ret])
      go_ret
      exact ⟨by rw [← E.out]; try rfl, B1.out.trans (HB.out.mono B1.out.size)⟩
theorem root_any (v : Value) (ps : List Fx) (w : World) (h : FixAt w v ps) (h0 : ps ≠ []) (hn : ps.length ≤ 1000000) (hf : ∀ f ∈ ps, fine f) : Calls Try.prog 53 #[v] w (IRet (optI (root ps)) w) := by
  obtain ⟨_, p, c, rfl, _, _, hp⟩ := h
  have hl : ¬ ps.length = 0 := fun e => h0 (List.eq_nil_of_length_eq_zero e)
  obtain ⟨b, off, rfl, hb, hc⟩ := hp hl
  exact root_go b off _ c ps w (Lib.hid rfl) (by omega) hn (Lib.hid hf) hb (Lib.hid hc)
end Go.Proofs.Ytkmgapieoedelaa
