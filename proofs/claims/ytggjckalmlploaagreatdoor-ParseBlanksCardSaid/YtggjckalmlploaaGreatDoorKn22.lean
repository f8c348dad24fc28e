/- Texts of this seat, one behind the other: LxFixN, LxFixM, LxFixG. -/
import Derived.Test.YtggjckalmlploaaGreatDoorKn21
import Derived.Laws.StructEq
/- The contracts of own and few (the laws'), Same and Row (the document's); two fixities compared. -/
set_option maxRecDepth 100000
namespace Go.Proofs.YtggjckalmlploaaGreatDoor.Lx
open Go.Shelf Go.RowKit Go.Lib Go.Sort Go.Proofs.FixMath

theorem own_zero (p : Option Addr) (c : Nat) (w : World) : Calls Tryz.prog 9 #[.slice p 0 c] w (NRet w []) := by
  rcases p with _ | a <;>
  · go_enter Tryz.func9, Tryz.ntmps9
    go_wp2
    go_ret
    exact ⟨_, rfl, ⟨rfl, _, _, rfl, Nat.le_refl _, by unfold maxLen; omega, fun h => absurd rfl h⟩, (Below.refl _ _).alloc (Nat.le_refl _) _⟩
theorem own_some (b off c : Nat) (ns : List Fx) (w : World) (hb : b < w.heap.size) (hc : Hid (CellsIn w b off (fxCells ns))) (hn : ns.length ≤ 1000000) : Calls Tryz.prog 9 #[.slice (some ⟨b, off, none⟩) ns.length c] w (NRet w ns) := by
  obtain ⟨i0, hi, hz0, hz1, hz2⟩ := infoFix
  have HI := Lib.hid (And.intro hi (And.intro hz0 (And.intro hz1 hz2)))
  clear hi hz0 hz1 hz2
  go_enter Tryz.func9, Tryz.ntmps9
  go_wp2_with ((at_builtin; refine wpList_append_own _ rfl _ _ 22 rfl w.heap.size 41 i0 zeroFix 3 32 Tryz.underlying22 HI.out.1 HI.out.2.1 HI.out.2.2.1 HI.out.2.2.2 rfl (by decide) _ 0 [] rfl (World.ownsRow_made w #[] 0 (Nat.le_refl _) (Nat.zero_le _) rfl) ⟨b, off, none⟩ ns.length c (fxCells ns) rfl (length_fxCells ns) (hc.out.kept (Below.heap_alloc _ _ b hb)).at (fxCells_one ns) (by unfold maxLen; omega) (by omega) (by simp) ?_; intro v' w3 hown' hgrow hnil; have HO3 := Lib.hid hown'; have HG := Lib.hid hgrow; clear hown' hgrow hnil))
  go_ret
  refine ⟨_, rfl, ?_, ?_⟩
  · have := SliceAt.of_owns HO3.out
    simpa [FixAt] using this
  · exact ((Below.refl _ _).alloc (Nat.le_refl _) _).grown HG.out (by simp) fun k hk => by
      have hk' : some w.heap.size = some k := hk
      simp at hk'
      omega
theorem own_any (v : Value) (ns : List Fx) (w : World) (h : FixAt w v ns) (hn : ns.length ≤ 1000000) : Calls Tryz.prog 9 #[v] w (NRet w ns) := by
  obtain ⟨_, p, c, rfl, _, _, hp⟩ := h
  rcases ns with _ | ⟨x, ns⟩
  · exact own_zero p c w
  · obtain ⟨b, off, rfl, hb, hc⟩ := hp (by simp)
    exact own_some b off c (x :: ns) w hb hc hn

theorem get_fx {ts : List Fx} (i : Nat) (h : i < ts.length) : ts.getD i default = ts[i] := by rw [List.getD_eq_getElem?_getD, List.getElem?_eq_getElem h, Option.getD_some]
theorem strs_at {w : World} {p : Option Addr} {n c : Nat} {fs : List ByteArray} (h : StrsAt w (.slice p n c) fs) (h0 : 0 < n) : ∃ b off, p = some ⟨b, off, none⟩ ∧ b < w.heap.size ∧ CellsIn w b off (strCells fs) := by
  obtain ⟨_, p', c', hv, _, _, hh⟩ := h
  simp only [Value.slice.injEq] at hv
  obtain ⟨rfl, rfl, rfl⟩ := hv
  exact hh (by omega)
theorem strs_form {w : World} {v : Value} {ns : List ByteArray} (h : StrsAt w v ns) : ∃ p c, v = .slice p ns.length c := by
  obtain ⟨_, p, cap, h1, _⟩ := h
  exact ⟨p, cap, h1⟩
end Go.Proofs.YtggjckalmlploaaGreatDoor.Lx
/- The contracts of MinFunc at fixities, by their levels, and of root. -/
set_option maxRecDepth 100000
namespace Go.Proofs.YtggjckalmlploaaGreatDoor.Lx
open Go.Shelf Go.RowKit Go.Lib Go.Sort Go.Proofs.FixMath

theorem lvl_any (x y : Fx) (hx : fine x) (hy : fine y) (W : World) : Calls Tryz.prog 146 #[.agg #[.string x.op, .int .i64 x.level, .int .i64 x.side], .agg #[.string y.op, .int .i64 y.level, .int .i64 y.side]] W fun e w' => e = .returned (.int .i64 (x.level - y.level)) ∧ ∃ q os', w' = grow (W.drewN q) os' := by
  obtain ⟨x0, x1, x2⟩ := x
  obtain ⟨y0, y1, y2⟩ := y
  obtain ⟨a1, a2, _⟩ := hx
  obtain ⟨b1, b2, _⟩ := hy
  simp only at a1 a2 b1 b2 ⊢
  go_enter Tryz.func146, Tryz.ntmps146
  go_wp2
  go_ret
  exact ⟨rfl, 0, _, by rw [alloc_eq_grow, alloc_eq_grow, grow_grow]; rfl⟩
/-- The first of the least level. -/
def MRet (ps : List Fx) (W : World) (e : Ending) (w' : World) : Prop := ∃ k, k < ps.length ∧ (∀ j, j < k → (ps.getD k default).level < (ps.getD j default).level) ∧ (∀ j, j < ps.length → (ps.getD k default).level ≤ (ps.getD j default).level) ∧ e = .returned (fxV (ps.getD k default)) ∧ Below W.heap.size W w'
/-- So far. -/
def MinSo (ps : List Fx) (i k : Nat) : Prop := k < i ∧ (∀ j, j < k → (ps.getD k default).level < (ps.getD j default).level) ∧ (∀ j, j < i → (ps.getD k default).level ≤ (ps.getD j default).level)
theorem MinSo.less {ps : List Fx} {i k : Nat} (h : MinSo ps i k) (e : (ps.getD i default).level < (ps.getD k default).level) : MinSo ps (i + 1) i :=
  ⟨by omega, fun j hj => by have := h.2.2 j hj; omega, fun j hj => by
    rcases Nat.lt_or_ge j i with hh | hh
    · have := h.2.2 j hh; omega
    · rw [show j = i by omega]; exact Int.le_refl _⟩
theorem MinSo.more {ps : List Fx} {i k : Nat} (h : MinSo ps i k) (e : ¬ (ps.getD i default).level < (ps.getD k default).level) : MinSo ps (i + 1) k :=
  ⟨by have := h.1; omega, h.2.1, fun j hj => by
    rcases Nat.lt_or_ge j i with hh | hh
    · exact h.2.2 j hh
    · rw [show j = i by omega]; omega⟩
theorem below_grown {B : Nat} {w wr : World} (h : Below B w wr) (hB : B ≤ wr.heap.size) (n : Nat) (os : Array Obj) : Below B w (grow (wr.drewN n) os) := h.trans ⟨rfl, rfl, rfl, by simp [grow], fun k hk => by simp [grow, Array.getElem?_append, show k < wr.heap.size by omega]⟩
set_option maxRecDepth 100000 in
set_option maxHeartbeats 2000000 in
theorem min_go (b off n c : Nat) (ps : List Fx) (w : World) (hl : Hid (ps.length = n)) (h0 : 0 < n) (hn : n ≤ 1000000) (hf : Hid (∀ f ∈ ps, fine f)) (hb : b < w.heap.size) (hc : Hid (CellsIn w b off (fxCells ps))) : Calls Tryz.prog 145 #[.slice (some ⟨b, off, none⟩) n c, .func (.func 146) #[] #[]] w (MRet ps w) := by
  have eg : ∀ args w, (callFunc 146 args).run Tryz.prog w = .ok (.enter 146 args) w := enters_of Tryz.func146 (by kernel_rfl) rfl
  have mixed : Tryz.prog.follows .mixedOrders = true := by kernel_rfl
  have g0 : decide ((n : Int) < 1) = false := by simp; omega
  obtain ⟨p0, p1, p2⟩ := hc.out.fx 0 (by rw [hl.out]; exact h0)
  simp only [Nat.zero_mul, Nat.add_zero] at p0 p1 p2
  obtain ⟨f, hfk⟩ : ∃ f, f = ps.getD 0 default := ⟨_, rfl⟩
  rw [← hfk] at p0 p1 p2
  have HF := Lib.hid hfk
  clear hfk
  obtain ⟨f0, f1, f2⟩ := f
  simp only at p0 p1 p2
  go_enter Tryz.func145, Tryz.ntmps145
  go_wp2
  go_loopw [6] (fun s6 wr => ∃ i k : Nat, 1 ≤ i ∧ i ≤ n ∧ s6 = .int .i64 i ∧ FixBlk wr w.heap.size zf ∧ FixBlk wr (w.heap.size + 1) (ps.getD k default) ∧ Below w.heap.size w wr ∧ MinSo ps i k) (fun s6 _ => n - (intOf s6).toNat)
  case atStart =>
    refine ⟨1, 0, Nat.le_refl _, h0, rfl, ?_, ?_, ((Below.refl _ _).alloc (Nat.le_refl _) _).alloc (by simp) _, by omega, fun j hj => by omega, fun j hj => by rw [show j = 0 by omega]; exact Int.le_refl _⟩
    · exact (FixBlk.new w zf).below ((Below.refl _ _).alloc (Nat.le_refl _) _) (by simp)
    · rw [← HF.out]
      have := FixBlk.new (w.alloc (.cells #[.string ByteArray.empty, .int .i64 0, .int .i64 0] 41)) ⟨f0, f1, f2⟩
      rw [show (w.alloc (.cells #[.string ByteArray.empty, .int .i64 0, .int .i64 0] 41)).heap.size = w.heap.size + 1 by simp] at this
      exact this
  case round =>
    obtain ⟨wo, hwo⟩ : ∃ wo : World, wo = wr := ⟨_, rfl⟩
    subst hwo
    obtain ⟨i, k, hi1, hin, rfl, e1, e2, hbel, hso⟩ := hrel
    clear p0 p1 p2
    by_cases hlt : i < n
    · have hk : k < n := by have := hso.1; omega
      obtain ⟨q0, q1, q2⟩ := (hc.out.below hb hbel).fx i (by rw [hl.out]; exact hlt)
      obtain ⟨x, hxk⟩ : ∃ x, x = ps.getD i default := ⟨_, rfl⟩
      obtain ⟨y, hyk⟩ : ∃ y, y = ps.getD k default := ⟨_, rfl⟩
      rw [← hxk] at q0 q1 q2
      rw [← hyk] at e2
      have fx : fine x := by rw [hxk]; exact hf.out _ (getD_mem (by rw [hl.out]; exact hlt))
      have fy : fine y := by rw [hyk]; exact hf.out _ (getD_mem (by rw [hl.out]; exact hk))
      have hbo : b < wo.heap.size := Nat.lt_of_lt_of_le hb hbel.size
      have HX := Lib.hid hxk
      have HY := Lib.hid hyk
      have SO := Lib.hid hso
      have E1 := Lib.hid e1
      have E2 := Lib.hid e2
      have HB := Lib.hid hbel
      obtain ⟨c0, c1, c2⟩ := e2.cells
      have ho : w.heap.size + 1 < wo.heap.size := e2.lt
      have l0 := fun n os => cell_grown (a := ⟨b, off + i * 3, none⟩) hbo q0 n os
      have l1 := fun n os => cell_grown (a := ⟨b, off + i * 3 + 1, none⟩) hbo q1 n os
      have l2 := fun n os => cell_grown (a := ⟨b, off + i * 3 + 2, none⟩) hbo q2 n os
      have m0 := fun n os => cell_grown (a := ⟨w.heap.size + 1, 0, none⟩) ho c0 n os
      have m1 := fun n os => cell_grown (a := ⟨w.heap.size + 1, 1, none⟩) ho c1 n os
      have m2 := fun n os => cell_grown (a := ⟨w.heap.size + 1, 2, none⟩) ho c2 n os
      have hcg := fun n os => lvl_any x y fx fy (grow (wo.drewN n) os)
      obtain ⟨r, hr⟩ : ∃ r, r = x.level - y.level := ⟨_, rfl⟩
      rw [← hr] at hcg
      have HR := Lib.hid hr
      obtain ⟨x0, x1, x2⟩ := x
      obtain ⟨y0, y1, y2⟩ := y
      simp only at l0 l1 l2 m0 m1 m2 hcg HR
      clear hxk hyk hso e1 e2 hbel q0 q1 q2 c0 c1 c2 hr fx fy
      have s3 : (i : Int) < (n : Int) := by omega
      by_cases g : r < 0
      · go_wp2_with fail
        go_quiet_grown (first | (go_at_fn 146; refine Calls.grown_of (hcg _ _)))
        have hB2 : Below wo.heap.size wo (grow (wo.drewN nq) osq) := below_grown (Below.refl _ _) (Nat.le_refl _) nq osq
        have E1' := Lib.hid (E1.out.below hB2 (by omega))
        have e2 := E2.out.below hB2 ho
        have HB' := Lib.hid (HB.out.trans (hB2.mono HB.out.size))
        have k0 := l0 nq osq
        have k1 := l1 nq osq
        have k2 := l2 nq osq
        obtain ⟨c0, c1, c2⟩ := e2.cells
        obtain ⟨z0, z1, z2⟩ := e2.free
        have E2' := Lib.hid e2
        clear l0 l1 l2 m0 m1 m2 hcg hB2 E1 E2 e2 HB
        generalize grow (wo.drewN nq) osq = w2 at *
        go_wp2
        have e3 := E2'.out.store ⟨x0, x1, x2⟩
        go_roundw
        case rel =>
          refine ⟨i + 1, i, by omega, by omega, by go_num, ?_, ?_, ?_, SO.out.less (by rw [← HX.out, ← HY.out]; have := HR.out; simp only; omega)⟩
          · have h1 := E1'.out
            unfold FixBlk at h1 ⊢
            rw [heap_setCell_other _ _ _ _ (by simp), heap_setCell_other _ _ _ _ (by simp), heap_setCell_other _ _ _ _ (by simp)]
            exact h1
          · rw [← HX.out]; exact e3
          · exact ((HB'.out.setCell (by simp) _).setCell (by simp) _).setCell (by simp) _
        case measure => simp [intOf]; omega
      · go_wp2_with fail
        go_quiet_grown (first | (go_at_fn 146; refine Calls.grown_of (hcg _ _)))
        have hB2 : Below wo.heap.size wo (grow (wo.drewN nq) osq) := below_grown (Below.refl _ _) (Nat.le_refl _) nq osq
        have E1' := Lib.hid (E1.out.below hB2 (by omega))
        have e2 := E2.out.below hB2 ho
        have HB' := Lib.hid (HB.out.trans (hB2.mono HB.out.size))
        have E2' := Lib.hid e2
        clear l0 l1 l2 m0 m1 m2 hcg hB2 E1 E2 e2 HB
        generalize grow (wo.drewN nq) osq = w2 at *
        go_wp2
        go_roundw
        case rel => exact ⟨i + 1, k, by omega, by omega, by go_num, E1'.out, by rw [← HY.out]; exact E2'.out, HB'.out, SO.out.more (by rw [← HX.out, ← HY.out]; have := HR.out; simp only; omega)⟩
        case measure => simp [intOf]; omega
    · obtain rfl : i = n := by omega
      have HB := Lib.hid hbel
      have SO := Lib.hid hso
      have E1 := Lib.hid e1
      obtain ⟨y, hyk⟩ : ∃ y, y = ps.getD k default := ⟨_, rfl⟩
      rw [← hyk] at e2
      have HY := Lib.hid hyk
      obtain ⟨c0, c1, c2⟩ := e2.cells
      obtain ⟨d0, d1, d2⟩ := e1.cells
      obtain ⟨z0, z1, z2⟩ := e1.free
      clear e1 e2 hbel hso hyk
      obtain ⟨y0, y1, y2⟩ := y
      simp only at c0 c1 c2
      go_wp2
      have e3 := E1.out.store ⟨y0, y1, y2⟩
      obtain ⟨g0, g1, g2⟩ := e3.cells
      simp only at g0 g1 g2
      have HB' := Lib.hid (((HB.out.setCell (p := ⟨w.heap.size, 0, none⟩) (by simp) (.string y0)).setCell (p := ⟨w.heap.size, 1, none⟩) (by simp) (.int .i64 y1)).setCell (p := ⟨w.heap.size, 2, none⟩) (by simp) (.int .i64 y2))
      generalize ((wo.setCell ⟨w.heap.size, 0, none⟩ (.string y0)).setCell ⟨w.heap.size, 1, none⟩ (.int .i64 y1)).setCell ⟨w.heap.size, 2, none⟩ (.int .i64 y2) = wz at *
      exact bodyPost_ret (v := fxV ⟨y0, y1, y2⟩) (by simp [results, Tryz.results145, go_sem, fxV, g0, g1, g2]) rfl ⟨k, by rw [hl.out]; have := SO.out.1; omega, SO.out.2.1, fun j hj => SO.out.2.2 j (by rw [hl.out] at hj; exact hj), by rw [← HY.out], HB'.out⟩
end Go.Proofs.YtggjckalmlploaaGreatDoor.Lx
/- The contract of root: an operator's place, or -1. -/
set_option maxRecDepth 100000
namespace Go.Proofs.YtggjckalmlploaaGreatDoor.Lx
open Go.Shelf Go.RowKit Go.Lib Go.Sort Go.Proofs.FixMath

theorem drop_fx {ps : List Fx} {k : Nat} (h : k < ps.length) : ps.drop k = ps.getD k default :: ps.drop (k + 1) := by
  rw [get_fx k h]; exact List.drop_eq_getElem_cons h
theorem scan_high {low s : Int} {i : Nat} {a : Int} {f : Fx} {fs : List Fx} (h : low < f.level) : scanL low s i a (f :: fs) = scanL low s (i + 1) a fs := by rw [scanL, if_pos h]
theorem scan_first {low s : Int} {i : Nat} {a : Int} {f : Fx} {fs : List Fx} (h : ¬ low < f.level) (ha : a < 0) : scanL low s i a (f :: fs) = scanL low s (i + 1) i fs := by rw [scanL, if_neg h, if_pos ha]
theorem scan_clash {low s : Int} {i : Nat} {a : Int} {f : Fx} {fs : List Fx} (h : ¬ low < f.level) (ha : ¬ a < 0) (hs : f.side = 0 ∨ ¬ f.side = s) : scanL low s i a (f :: fs) = -1 := by rw [scanL, if_neg h, if_neg ha, if_pos hs]
theorem scan_left {low s : Int} {i : Nat} {a : Int} {f : Fx} {fs : List Fx} (h : ¬ low < f.level) (ha : ¬ a < 0) (hs : ¬ (f.side = 0 ∨ ¬ f.side = s)) (hd : f.side < 0) : scanL low s i a (f :: fs) = scanL low s (i + 1) i fs := by rw [scanL, if_neg h, if_neg ha, if_neg hs, if_pos hd]
theorem scan_stay {low s : Int} {i : Nat} {a : Int} {f : Fx} {fs : List Fx} (h : ¬ low < f.level) (ha : ¬ a < 0) (hs : ¬ (f.side = 0 ∨ ¬ f.side = s)) (hd : ¬ f.side < 0) : scanL low s i a (f :: fs) = scanL low s (i + 1) a fs := by rw [scanL, if_neg h, if_neg ha, if_neg hs, if_neg hd]
set_option maxRecDepth 100000 in
set_option maxHeartbeats 2000000 in
theorem root_go (b off n c : Nat) (ps : List Fx) (w : World) (hl : Hid (ps.length = n)) (h0 : 0 < n) (hn : n ≤ 1000000) (hf : Hid (∀ f ∈ ps, fine f)) (hb : b < w.heap.size) (hc : Hid (CellsIn w b off (fxCells ps))) : Calls Tryz.prog 141 #[.slice (some ⟨b, off, none⟩) n c] w (IRet (optI (root ps)) w) := by
  obtain ⟨R, hR⟩ : ∃ R, R = optI (root ps) := ⟨_, rfl⟩
  rw [← hR]
  have HRt := Lib.hid hR
  clear hR
  go_enter Tryz.func141, Tryz.ntmps141
  go_wp2
  go_step3
  go_wp2_with fail
  refine (min_go b off n c ps _ hl h0 hn hf hb hc).mono ?_
  rintro e w1 ⟨k0, hk0, m1, m2, rfl, b1⟩
  have HS := Lib.hid ((scanL_root ps k0 hf.out hk0 m1 m2).trans HRt.out.symm)
  have B1 := Lib.hid b1
  have hb1 : b < w1.heap.size := Nat.lt_of_lt_of_le hb b1.size
  have HC := Lib.hid (hc.out.below hb b1)
  obtain ⟨m, hm⟩ : ∃ m, m = ps.getD k0 default := ⟨_, rfl⟩
  rw [← hm] at HS ⊢
  have fm : fine m := by rw [hm]; exact hf.out _ (getD_mem hk0)
  have HM := Lib.hid fm
  have NB := Lib.hid (FixBlk.new w1 m)
  have BN : Hid (Below w1.heap.size w1 (w1.alloc (.cells #[.string m.op, .int .i64 m.level, .int .i64 m.side] 41))) := Lib.hid ((Below.refl _ _).alloc (Nat.le_refl _) _)
  obtain ⟨mo, ml, ms⟩ := m
  unfold fxV
  simp only at NB HS HM BN ⊢
  clear hk0 m1 m2 hm b1 fm
  go_wp2
  go_step3
  go_wp2
  go_loopw [4, 11] (fun s4 s11 wr => ∃ (k : Nat) (a : Int), k ≤ n ∧ -1 ≤ a ∧ a ≤ n ∧ s11 = .int .i64 k ∧ s4 = .int .i64 a ∧ FixBlk wr w1.heap.size ⟨mo, ml, ms⟩ ∧ Below w1.heap.size w1 wr ∧ scanL ml ms k a (ps.drop k) = R) (fun _ s11 _ => n - (intOf s11).toNat)
  case atStart => exact ⟨0, -1, Nat.zero_le _, by omega, by omega, rfl, rfl, NB.out, BN.out, by rw [List.drop_zero]; exact HS.out⟩
  case round =>
    obtain ⟨wo, hwo⟩ : ∃ wo : World, wo = wr := ⟨_, rfl⟩
    subst hwo
    obtain ⟨k, a, hk, ha1, ha2, rfl, rfl, hblk, hbel, hsc⟩ := hrel
    have SC := Lib.hid hsc
    have HB := Lib.hid hbel
    have hgo : w1.heap.size < wo.heap.size := hblk.lt
    clear hsc NB BN HS
    by_cases hlt : k < n
    · obtain ⟨q0, q1, q2⟩ := (HC.out.below hb1 hbel).fx k (by rw [hl.out]; exact hlt)
      obtain ⟨x, hxk⟩ : ∃ x, x = ps.getD k default := ⟨_, rfl⟩
      rw [← hxk] at q0 q1 q2
      have fx : fine x := by rw [hxk]; exact hf.out _ (getD_mem (by rw [hl.out]; exact hlt))
      have HX := Lib.hid hxk
      have DR := Lib.hid ((drop_fx (ps := ps) (k := k) (by rw [hl.out]; exact hlt)).trans (by rw [← hxk]))
      obtain ⟨x0, x1, x2⟩ := x
      obtain ⟨f1, f2, f3⟩ := fx
      simp only at q0 q1 q2 f1 f2 f3
      have SC2 := Lib.hid SC.out
      rw [DR.out] at SC2
      obtain ⟨c0, c1, c2⟩ := hblk.cells
      have EB := Lib.hid hblk
      simp only at c0 c1 c2
      clear hxk hblk hbel SC
      have s3 : (k : Int) < (n : Int) := by omega
      have bst : Hid (Below w1.heap.size w1 (wo.alloc (.cells #[.string x0, .int .i64 x1, .int .i64 x2] 41))) := Lib.hid (HB.out.alloc HB.out.size _)
      have ebt : Hid (FixBlk (wo.alloc (.cells #[.string x0, .int .i64 x1, .int .i64 x2] 41)) w1.heap.size ⟨mo, ml, ms⟩) := Lib.hid (EB.out.below ((Below.refl _ _).alloc (Nat.le_refl _) _) hgo)
      have hne : w1.heap.size ≠ wo.heap.size := by omega
      by_cases g1 : ml < x1
      · have E := Lib.hid ((scan_high (f := ⟨x0, x1, x2⟩) (fs := ps.drop (k + 1)) (low := ml) (s := ms) (i := k) (a := a) g1).symm.trans SC2.out)
        go_wp2
        go_roundw
        case rel => exact ⟨k + 1, a, by omega, ha1, ha2, by go_num, rfl, ebt.out, bst.out, E.out⟩
        case measure => simp [intOf]; omega
      · have G1 := Lib.hid g1
        by_cases g2 : a < 0
        · have E := Lib.hid ((scan_first (f := ⟨x0, x1, x2⟩) (fs := ps.drop (k + 1)) (low := ml) (s := ms) (i := k) (a := a) g1 g2).symm.trans SC2.out)
          go_wp2
          go_roundw
          case rel => exact ⟨k + 1, k, by omega, by omega, by omega, by go_num, rfl, ebt.out, bst.out, E.out⟩
          case measure => simp [intOf]; omega
        · by_cases g3 : x2 = 0
          · have E := Lib.hid ((scan_clash (f := ⟨x0, x1, x2⟩) (fs := ps.drop (k + 1)) (low := ml) (s := ms) (i := k) (a := a) g1 g2 (.inl g3)).symm.trans SC2.out)
            have g4 : (x2 == 0) = true := by simpa using g3
            clear g3
            go_wp2
            (try rw [Exit.noGoto_ret])
            go_ret
            exact ⟨by rw [← E.out]; try rfl, B1.out.trans (bst.out.mono B1.out.size)⟩
          · by_cases g5 : x2 = ms
            · have g4 : (x2 == 0) = false := by simpa using g3
              have g6 : (x2 == ms) = true := by simpa using g5
              have g7 : (x2 != ms) = false := by simp [g5]
              have hs : ¬ (x2 = 0 ∨ ¬ x2 = ms) := by omega
              by_cases g8 : x2 < 0
              · have E := Lib.hid ((scan_left (f := ⟨x0, x1, x2⟩) (fs := ps.drop (k + 1)) (low := ml) (s := ms) (i := k) (a := a) g1 g2 hs g8).symm.trans SC2.out)
                clear g3 g5 hs
                go_wp2
                go_roundw
                case rel => exact ⟨k + 1, k, by omega, by omega, by omega, by go_num, rfl, ebt.out, bst.out, E.out⟩
                case measure => simp [intOf]; omega
              · have E := Lib.hid ((scan_stay (f := ⟨x0, x1, x2⟩) (fs := ps.drop (k + 1)) (low := ml) (s := ms) (i := k) (a := a) g1 g2 hs g8).symm.trans SC2.out)
                clear g3 g5 hs
                go_wp2
                go_roundw
                case rel => exact ⟨k + 1, a, by omega, by omega, by omega, by go_num, rfl, ebt.out, bst.out, E.out⟩
                case measure => simp [intOf]; omega
            · have E := Lib.hid ((scan_clash (f := ⟨x0, x1, x2⟩) (fs := ps.drop (k + 1)) (low := ml) (s := ms) (i := k) (a := a) g1 g2 (.inr g5)).symm.trans SC2.out)
              have g4 : (x2 == 0) = false := by simpa using g3
              have g6 : (x2 == ms) = false := by simpa using g5
              have g7 : (x2 != ms) = true := by simpa using g5
              clear g3 g5
              go_wp2
              (try rw [Exit.noGoto_ret])
              go_ret
              exact ⟨by rw [← E.out]; try rfl, B1.out.trans (bst.out.mono B1.out.size)⟩
    · have e := SC.out
      rw [List.drop_of_length_le (by rw [hl.out]; omega), scanL] at e
      have E := Lib.hid e
      clear e hblk hbel
      go_wp2
      (try rw [Exit.noGoto_ret])
      go_ret
      exact ⟨by rw [← E.out]; try rfl, B1.out.trans (HB.out.mono B1.out.size)⟩
theorem root_any (v : Value) (ps : List Fx) (w : World) (h : FixAt w v ps) (h0 : ps ≠ []) (hn : ps.length ≤ 1000000) (hf : ∀ f ∈ ps, fine f) : Calls Tryz.prog 141 #[v] w (IRet (optI (root ps)) w) := by
  obtain ⟨_, p, c, rfl, _, _, hp⟩ := h
  have hl : ¬ ps.length = 0 := fun e => h0 (List.eq_nil_of_length_eq_zero e)
  obtain ⟨b, off, rfl, hb, hc⟩ := hp hl
  exact root_go b off _ c ps w (Lib.hid rfl) (by omega) hn (Lib.hid hf) hb (Lib.hid hc)
end Go.Proofs.YtggjckalmlploaaGreatDoor.Lx
