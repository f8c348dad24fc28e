/- The contracts of MinFunc at fixities, by their levels, and of root. -/
import Derived.Test.YtkmgapieoedelaaFixN
namespace Go.Proofs.Ytkmgapieoedelaa
open Go.Shelf Go.RowKit Go.Lib Go.Sort Go.Proofs.FixMath

theorem lvl_any (x y : Fx) (hx : fine x) (hy : fine y) (W : World) : Calls Try.prog 66 #[.agg #[.string x.op, .int .i64 x.level, .int .i64 x.side], .agg #[.string y.op, .int .i64 y.level, .int .i64 y.side]] W fun e w' => e = .returned (.int .i64 (x.level - y.level)) ∧ ∃ q os', w' = grow (W.drewN q) os' := by
  obtain ⟨x0, x1, x2⟩ := x
  obtain ⟨y0, y1, y2⟩ := y
  obtain ⟨a1, a2, _⟩ := hx
  obtain ⟨b1, b2, _⟩ := hy
  simp only at a1 a2 b1 b2 ⊢
  go_enter Try.func66, Try.ntmps66
  go_wp2
  go_ret
  exact ⟨rfl, 0, _, by rw [alloc_eq_grow, alloc_eq_grow, grow_grow]; rfl⟩
/-- The first of the least level. -/
def MRet (ps : List Fx) (W : World) (e : Ending) (w' : World) : Prop := ∃ k, k < ps.length ∧ (∀ j, j < k → (ps.getD k default).level < (ps.getD j default).level) ∧ (∀ j, j < ps.length → (ps.getD k default).level ≤ (ps.getD j default).level) ∧ e = .returned (fxV (ps.getD k default)) ∧ Below W.heap.size W w'
/-- So far. -/
def MinSo (ps : List Fx) (i k : Nat) : Prop := k < i ∧ (∀ j, j < k → (ps.getD k default).level < (ps.getD j default).level) ∧ (∀ j, j < i → (ps.getD k default).level ≤ (ps.getD j default).level)
theorem MinSo.less {ps : List Fx} {i k : Nat} (h : MinSo ps i k) (e : (ps.getD i default).level < (ps.getD k default).level) : MinSo ps (i + 1) i :=
  ⟨by omega, fun j hj => by have := h.2.2 j hj; omega, fun j hj => by
    rcases Nat.lt_or_ge j i with hh | hh
    · have := h.2.2 j hh; omega
    · rw [show j = i by omega]; exact Int.le_refl _⟩
theorem MinSo.more {ps : List Fx} {i k : Nat} (h : MinSo ps i k) (e : ¬ (ps.getD i default).level < (ps.getD k default).level) : MinSo ps (i + 1) k :=
  ⟨by have := h.1; omega, h.2.1, fun j hj => by
    rcases Nat.lt_or_ge j i with hh | hh
    · exact h.2.2 j hh
    · rw [show j = i by omega]; omega⟩
theorem below_grown {B : Nat} {w wr : World} (h : Below B w wr) (hB : B ≤ wr.heap.size) (n : Nat) (os : Array Obj) : Below B w (grow (wr.drewN n) os) := h.trans ⟨rfl, rfl, rfl, by simp [grow], fun k hk => by simp [grow, Array.getElem?_append, show k < wr.heap.size by omega]⟩
set_option maxRecDepth 100000 in
set_option maxHeartbeats 2000000 in
theorem min_go (b off n c : Nat) (ps : List Fx) (w : World) (hl : Hid (ps.length = n)) (h0 : 0 < n) (hn : n ≤ 1000000) (hf : Hid (∀ f ∈ ps, fine f)) (hb : b < w.heap.size) (hc : Hid (CellsIn w b off (fxCells ps))) : Calls Try.prog 65 #[.slice (some ⟨b, off, none⟩) n c, .func (.func 66) #[] #[]] w (MRet ps w) := by
  have eg : ∀ args w, (callFunc 66 args).run Try.prog w = .ok (.enter 66 args) w := enters_of Try.func66 (by kernel_rfl) rfl
  have mixed : Try.prog.follows .mixedOrders = true := by kernel_rfl
  have g0 : decide ((n : Int) < 1) = false := by simp; omega
  obtain ⟨p0, p1, p2⟩ := hc.out.fx 0 (by rw [hl.out]; exact h0)
  simp only [Nat.zero_mul, Nat.add_zero] at p0 p1 p2
  obtain ⟨f, hfk⟩ : ∃ f, f = ps.getD 0 default := ⟨_, rfl⟩
  rw [← hfk] at p0 p1 p2
  have HF := Lib.hid hfk
  clear hfk
  obtain ⟨f0, f1, f2⟩ := f
  simp only at p0 p1 p2
  go_enter Try.func65, Try.ntmps65
  go_wp2
  go_loopw [6] (fun s6 wr => ∃ i k : Nat, 1 ≤ i ∧ i ≤ n ∧ s6 = .int .i64 i ∧ FixBlk wr w.heap.size zf ∧ FixBlk wr (w.heap.size + 1) (ps.getD k default) ∧ Below w.heap.size w wr ∧ MinSo ps i k) (fun s6 _ => n - (intOf s6).toNat)
  case atStart =>
    refine ⟨1, 0, Nat.le_refl _, h0, rfl, ?_, ?_, ((Below.refl _ _).alloc (Nat.le_refl _) _).alloc (by simp) _, by omega, fun j hj => by omega, fun j hj => by rw [show j = 0 by omega]; exact Int.le_refl _⟩
    · exact (FixBlk.new w zf).below ((Below.refl _ _).alloc (Nat.le_refl _) _) (by simp)
    · rw [← HF.out]
      have := FixBlk.new (w.alloc (.cells #[.string ByteArray.empty, .int .i64 0, .int .i64 0] 24)) ⟨f0, f1, f2⟩
      rw [show (w.alloc (.cells #[.string ByteArray.empty, .int .i64 0, .int .i64 0] 24)).heap.size = w.heap.size + 1 by simp] at this
      exact this
  case round =>
    obtain ⟨wo, hwo⟩ : ∃ wo : World, wo = wr := ⟨_, rfl⟩
    subst hwo
    obtain ⟨i, k, hi1, hin, rfl, e1, e2, hbel, hso⟩ := hrel
    clear p0 p1 p2
    by_cases hlt : i < n
    · have hk : k < n := by have := hso.1; omega
      obtain ⟨q0, q1, q2⟩ := (hc.out.below hb hbel).fx i (by rw [hl.out]; exact hlt)
      obtain ⟨x, hxk⟩ : ∃ x, x = ps.getD i default := ⟨_, rfl⟩
      obtain ⟨y, hyk⟩ : ∃ y, y = ps.getD k default := ⟨_, rfl⟩
      rw [← hxk] at q0 q1 q2
      rw [← hyk] at e2
      have fx : fine x := by rw [hxk]; exact hf.out _ (getD_mem (by rw [hl.out]; exact hlt))
      have fy : fine y := by rw [hyk]; exact hf.out _ (getD_mem (by rw [hl.out]; exact hk))
      have hbo : b < wo.heap.size := Nat.lt_of_lt_of_le hb hbel.size
      have HX := Lib.hid hxk
      have HY := Lib.hid hyk
      have SO := Lib.hid hso
      have E1 := Lib.hid e1
      have E2 := Lib.hid e2
      have HB := Lib.hid hbel
      obtain ⟨c0, c1, c2⟩ := e2.cells
      have ho : w.heap.size + 1 < wo.heap.size := e2.lt
      have l0 := fun n os => cell_grown (a := ⟨b, off + i * 3, none⟩) hbo q0 n os
      have l1 := fun n os => cell_grown (a := ⟨b, off + i * 3 + 1, none⟩) hbo q1 n os
      have l2 := fun n os => cell_grown (a := ⟨b, off + i * 3 + 2, none⟩) hbo q2 n os
      have m0 := fun n os => cell_grown (a := ⟨w.heap.size + 1, 0, none⟩) ho c0 n os
      have m1 := fun n os => cell_grown (a := ⟨w.heap.size + 1, 1, none⟩) ho c1 n os
      have m2 := fun n os => cell_grown (a := ⟨w.heap.size + 1, 2, none⟩) ho c2 n os
      have hcg := fun n os => lvl_any x y fx fy (grow (wo.drewN n) os)
      obtain ⟨r, hr⟩ : ∃ r, r = x.level - y.level := ⟨_, rfl⟩
      rw [← hr] at hcg
      have HR := Lib.hid hr
      obtain ⟨x0, x1, x2⟩ := x
      obtain ⟨y0, y1, y2⟩ := y
      simp only at l0 l1 l2 m0 m1 m2 hcg HR
      clear hxk hyk hso e1 e2 hbel q0 q1 q2 c0 c1 c2 hr fx fy
      have s3 : (i : Int) < (n : Int) := by omega
      by_cases g : r < 0
      · go_wp2_with fail
        go_quiet_grown (first | (go_at_fn 66; refine Calls.grown_of (hcg _ _)))
        have hB2 : Below wo.heap.size wo (grow (wo.drewN nq) osq) := below_grown (Below.refl _ _) (Nat.le_refl _) nq osq
        have E1' := Lib.hid (E1.out.below hB2 (by omega))
        have e2 := E2.out.below hB2 ho
        have HB' := Lib.hid (HB.out.trans (hB2.mono HB.out.size))
        have k0 := l0 nq osq
        have k1 := l1 nq osq
        have k2 := l2 nq osq
        obtain ⟨c0, c1, c2⟩ := e2.cells
        obtain ⟨z0, z1, z2⟩ := e2.free
        have E2' := Lib.hid e2
        clear l0 l1 l2 m0 m1 m2 hcg hB2 E1 E2 e2 HB
        generalize grow (wo.drewN nq) osq = w2 at *
        go_wp2
        have e3 := E2'.out.store ⟨x0, x1, x2⟩
        go_roundw
        case rel =>
          refine ⟨i + 1, i, by omega, by omega, by go_num, ?_, ?_, ?_, SO.out.less (by rw [← HX.out, ← HY.out]; have := HR.out; simp only; omega)⟩
          · have h1 := E1'.out
            unfold FixBlk at h1 ⊢
            rw [heap_setCell_other _ _ _ _ (by simp), heap_setCell_other _ _ _ _ (by simp), heap_setCell_other _ _ _ _ (by simp)]
            exact h1
          · rw [← HX.out]; exact e3
          · exact ((HB'.out.setCell (by simp) _).setCell (by simp) _).setCell (by simp) _
        case measure => simp [intOf]; omega
      · go_wp2_with fail
        go_quiet_grown (first | (go_at_fn 66; refine Calls.grown_of (hcg _ _)))
        have hB2 : Below wo.heap.size wo (grow (wo.drewN nq) osq) := below_grown (Below.refl _ _) (Nat.le_refl _) nq osq
        have E1' := Lib.hid (E1.out.below hB2 (by omega))
        have e2 := E2.out.below hB2 ho
        have HB' := Lib.hid (HB.out.trans (hB2.mono HB.out.size))
        have E2' := Lib.hid e2
        clear l0 l1 l2 m0 m1 m2 hcg hB2 E1 E2 e2 HB
        generalize grow (wo.drewN nq) osq = w2 at *
        go_wp2
        go_roundw
        case rel => exact ⟨i + 1, k, by omega, by omega, by go_num, E1'.out, by rw [← HY.out]; exact E2'.out, HB'.out, SO.out.more (by rw [← HX.out, ← HY.out]; have := HR.out; simp only; omega)⟩
        case measure => simp [intOf]; omega
    · obtain rfl : i = n := by omega
      have HB := Lib.hid hbel
      have SO := Lib.hid hso
      have E1 := Lib.hid e1
      obtain ⟨y, hyk⟩ : ∃ y, y = ps.getD k default := ⟨_, rfl⟩
      rw [← hyk] at e2
      have HY := Lib.hid hyk
      obtain ⟨c0, c1, c2⟩ := e2.cells
      obtain ⟨d0, d1, d2⟩ := e1.cells
      obtain ⟨z0, z1, z2⟩ := e1.free
      clear e1 e2 hbel hso hyk
      obtain ⟨y0, y1, y2⟩ := y
      simp only at c0 c1 c2
      go_wp2
      have e3 := E1.out.store ⟨y0, y1, y2⟩
      obtain ⟨g0, g1, g2⟩ := e3.cells
      simp only at g0 g1 g2
      have HB' := Lib.hid (((HB.out.setCell (p := ⟨w.heap.size, 0, none⟩) (by simp) (.string y0)).setCell (p := ⟨w.heap.size, 1, none⟩) (by simp) (.int .i64 y1)).setCell (p := ⟨w.heap.size, 2, none⟩) (by simp) (.int .i64 y2))
      generalize ((wo.setCell ⟨w.heap.size, 0, none⟩ (.string y0)).setCell ⟨w.heap.size, 1, none⟩ (.int .i64 y1)).setCell ⟨w.heap.size, 2, none⟩ (.int .i64 y2) = wz at *
      exact bodyPost_ret (v := fxV ⟨y0, y1, y2⟩) (by simp [results, Try.results65, go_sem, fxV, g0, g1, g2]) rfl ⟨k, by rw [hl.out]; have := SO.out.1; omega, SO.out.2.1, fun j hj => SO.out.2.2 j (by rw [hl.out] at hj; exact hj), by rw [← HY.out], HB'.out⟩
end Go.Proofs.Ytkmgapieoedelaa
