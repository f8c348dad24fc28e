/- The contract of the document's Set. -/
import Derived.Test.YtkmgapieoedelaaFixY
import Derived.Sort.Walk0
namespace Go.Proofs.FixMath
theorem sortR_next {l : List Fx} {k : Nat} (hk : k < l.length) : sortR (l.take (k + 1)) = insF (l.getD k default) (sortR (l.take k)) := by
  unfold sortR
  rw [List.take_succ_eq_append_getElem hk, List.foldl_append, List.getD_eq_getElem?_getD, List.getElem?_eq_getElem hk]
  rfl
end Go.Proofs.FixMath
namespace Go.Proofs.Ytkmgapieoedelaa
open Go.Shelf Go.RowKit Go.Lib Go.Sort Go.Proofs.FixMath

theorem fx_src {w : World} {p : Option Addr} {n k : Nat} {x : List Fx} (h : FixAt w (.slice p n k) x) : x.length = n ∧ (n ≠ 0 → ∃ ad, p = some ad ∧ ∀ j u, (fxCells x)[j]? = some u → w.cell? (ad.add j) = some u) := by
  obtain ⟨_, p', k', hv, _, _, hh⟩ := h
  simp only [Value.slice.injEq] at hv
  obtain ⟨rfl, rfl, rfl⟩ := hv
  refine ⟨rfl, fun h0 => ?_⟩
  obtain ⟨b, off, rfl, _, hc⟩ := hh h0
  exact ⟨_, rfl, hc.at⟩
theorem less_bytes (x y : ByteArray) : Op.bytesLess x.toList y.toList = decide (x.data.toList < y.data.toList) := by
  rw [bytesLess_eq, Lib.toList_data, Lib.toList_data]
theorem heap_new2 (w : World) (a b : Obj) : ((w.alloc a).alloc b).heap[w.heap.size + 1]? = some b := by
  have := heap_alloc_new (w.alloc a) b
  rwa [World.size_alloc] at this
theorem made0 {W : World} {base g : Nat} (h : W.heap[g]? = some (.cells #[] 24 (0, 0))) (hb : base ≤ g) : W.ownsRow base 24 3 (.slice (some ⟨g, 0, none⟩) 0 0) 0 [] := ⟨rfl, .inr ⟨g, 0, #[], rfl, hb, h, Nat.le_refl _, Nat.zero_le _, rfl, rfl⟩⟩
theorem fcells_blk {W : World} {g : Nat} {f : Fx} (h : FixBlk W g f) : ∀ j u, f.cells[j]? = some u → W.cell? ((⟨g, 0, none⟩ : Addr).add j) = some u := by
  intro j u hj
  obtain ⟨a, b, c⟩ := h.cells
  match j, hj with
  | 0, hj => simp [Fx.cells] at hj; subst hj; rw [Go.WideShapes.add_plain]; exact a
  | 1, hj => simp [Fx.cells] at hj; subst hj; rw [Go.WideShapes.add_plain]; exact b
  | 2, hj => simp [Fx.cells] at hj; subst hj; rw [Go.WideShapes.add_plain]; exact c
  | j + 3, hj => simp [Fx.cells] at hj
theorem own_zeros {W : World} {b : Nat} {p : Option Addr} {n c : Nat} {xs : List Value} (h : W.ownsRow b 24 3 (.slice p (0 + n) c) (0 + n) ([] ++ xs)) : W.ownsRow b 24 3 (.slice p n c) n xs := by simpa using h
theorem below_made {w5 W wA : World} {G n c : Nat} (b : Below w5.heap.size w5 W) (g : W.grownBy wA (Value.slice (some ⟨G, 0, none⟩) n c).ownBlock) (hG : w5.heap.size ≤ G) : Below w5.heap.size w5 wA :=
  b.grown g b.size fun k hk => by
    have hk' : some G = some k := hk
    simp at hk'
    omega
theorem below_row {w5 W wA wB : World} {v : Value} {n : Nat} {xs : List Value} (b : Below w5.heap.size w5 W) (o : wA.ownsRow w5.heap.size 24 3 v n xs) (g : W.grownBy wB v.ownBlock) : Below w5.heap.size w5 wB :=
  b.grown g b.size fun _ hk => (World.ownsRow.there o hk).1
theorem row_some {W : World} {b : Nat} {p : Option Addr} {n c : Nat} {xs : List Value} (h : W.ownsRow b 24 3 (.slice p n c) n xs) (h0 : 0 < n) : ∃ g, p = some ⟨g, 0, none⟩ ∧ g < W.heap.size ∧ n ≤ c ∧ c ≤ maxLen := by
  rcases h.2 with ⟨_, h2⟩ | ⟨g, cap, cur, hv, _, hg, hn, hm, _⟩
  · omega
  · simp only [Value.slice.injEq, true_and] at hv
    obtain ⟨rfl, rfl⟩ := hv
    exact ⟨g, rfl, (Array.getElem?_eq_some_iff.1 hg).1, hn, hm⟩
theorem row_next {W : World} {b i j : Nat} {p : Option Addr} {c : Nat} {O : List Fx} {x : Fx} (h : W.ownsRow b 24 3 (.slice p (i + 1 + (j - i)) c) (i + 1 + (j - i)) (fxCells (O.take i) ++ Fx.cells x ++ fxCells (O.drop i))) (hij : i ≤ j) (hl : O.length = j) : FixAt W (.slice p (j + 1) c) (O.take i ++ x :: O.drop i) := by
  have e : fxCells (O.take i ++ x :: O.drop i) = fxCells (O.take i) ++ Fx.cells x ++ fxCells (O.drop i) := by simp [fxCells]
  have e2 : i + 1 + (j - i) = j + 1 := by omega
  rw [e2] at h
  have := SliceAt.of_owns h
  unfold FixAt
  rw [e, show (O.take i ++ x :: O.drop i).length = j + 1 by simp; omega]
  exact this
theorem row_last {W : World} {b i : Nat} {p : Option Addr} {c : Nat} {O : List Fx} {x : Fx} (h : W.ownsRow b 24 3 (.slice p (i + 1 + 0) c) (i + 1 + 0) (fxCells (O.take i) ++ Fx.cells x ++ [])) (hl : O.length = i) : FixAt W (.slice p (i + 1) c) (O.take i ++ x :: O.drop i) := by
  have e3 : O.drop i = [] := List.drop_of_length_le (by omega)
  have e : fxCells (O.take i ++ x :: O.drop i) = fxCells (O.take i) ++ Fx.cells x ++ [] := by rw [e3]; simp [fxCells]
  have := SliceAt.of_owns h
  unfold FixAt
  rw [e, e3, show (O.take i ++ [x]).length = i + 1 by simp; omega]
  exact this
set_option maxRecDepth 100000 in
set_option maxHeartbeats 0 in
theorem rset_go (p : Option Addr) (n c : Nat) (l : List Fx) (f : Fx) (w : World) (hl : Hid (l.length = n)) (hn : n ≤ 1000000) (hs : Hid (Small l)) (hfs : Hid (f.op.size ≤ 100000000)) (h1 : Hid (FixAt w (.slice p n c) l)) : Calls Try.prog 14 #[.slice p n c, fxV f] w (ERet (setL rightF l f) w) := by
  have FB := Lib.hid (FixBlk.new w f)
  have C0 := Lib.hid (fun W (hW : Below w.heap.size w W) => rcheck_any _ l W (h1.out.below hW) (by rw [hl.out]; exact hn) hs.out)
  have CR := Lib.hid (fun W => rfright_any f W hfs.out)
  unfold setL
  by_cases hc : checkL rightF l = 0
  · rw [if_neg (by simp [hc])]
    rw [hc] at C0
    clear hc
    by_cases hf : rightF f = true
    · rw [if_neg (by simp [hf])]
      rw [hf] at CR
      obtain ⟨i0, hi, hz0, hz1, hz2⟩ := infoFix
      have HI := Lib.hid (And.intro hi (And.intro hz0 (And.intro hz1 hz2)))
      obtain ⟨R, hR⟩ : ∃ R, R = if 400 < (allL l f).length then (([], 40) : List Fx × Int) else (sortR (allL l f), 0) := ⟨_, rfl⟩
      rw [← hR]
      have HR := Lib.hid hR
      obtain ⟨f0, f1, f2⟩ := f
      unfold fxV
      simp only [fxV] at FB C0 CR ⊢
      clear hi hz0 hz1 hz2 hf hR
      go_enter Try.func14, Try.ntmps14
      go_wp2_with fail
      refine (C0.out _ ?c0).mono ?_
      case c0 => exact (Below.refl _ _).alloc (Nat.le_refl _) _
      rintro e w1 ⟨rfl, b1⟩
      have fb1 := FB.out.below b1 (by simp)
      have B1 : Hid (Below w.heap.size w w1) := Lib.hid (((Below.refl _ _).alloc (Nat.le_refl _) _).trans (b1.mono (by simp)))
      obtain ⟨q0, q1, q2⟩ := fb1.cells
      have FB1 := Lib.hid fb1
      clear b1 fb1
      simp only at q0 q1 q2
      go_wp2_with fail
      refine (CR.out _).mono ?_
      rintro e w3 ⟨rfl, b3⟩
      have fb3 := FB1.out.below b3 FB1.out.lt
      have B3 : Hid (Below w.heap.size w w3) := Lib.hid (B1.out.trans (b3.mono B1.out.size))
      obtain ⟨q0, q1, q2⟩ := fb3.cells
      have hlt3 := fb3.lt
      have FB3 := Lib.hid fb3
      clear b3 fb3
      simp only at q0 q1 q2
      have ROW0 : Hid (FRow w3.heap.size (w3.alloc (.cells #[.string f0, .int .i64 f1, .int .i64 f2] 24)) (.slice (some ⟨w3.heap.size, 0, none⟩) 1 1) [⟨f0, f1, f2⟩]) := Lib.hid (World.ownsRow_lit (base := w3.heap.size) (e := 24) (size := 3) w3 #[.string f0, .int .i64 f1, .int .i64 f2] 1 (Nat.le_refl _) (by unfold maxLen; omega) rfl)
      have LF : Hid (∀ k, k < n → ([⟨f0, f1, f2⟩] ++ (l.take (k + 1)).filter (fun g => !decide (g.op = f0)) : List Fx) = [⟨f0, f1, f2⟩] ++ (l.take k).filter (fun g => !decide (g.op = f0)) ++ if (l.getD k default).op = f0 then [] else [l.getD k default]) := Lib.hid fun k hk => by
        rw [filter_take _ k (by rw [hl.out]; exact hk), List.append_assoc]
        congr 2
        by_cases e : (l.getD k default).op = f0
        · rw [if_pos e, if_neg (by rw [e]; simp)]
        · rw [if_neg e, if_pos (by simpa using e)]
      have LEN : Hid (∀ k, ((l.take k).filter (fun g => !decide (g.op = f0))).length ≤ k) := Lib.hid fun k => Nat.le_trans (List.length_filter_le _ _) (by rw [List.length_take]; omega)
      go_wp2
      go_loopw [7, 8] (fun s7 s8 wr => ∃ (k m : Nat) (pp : Option Addr) (kk : Nat), k ≤ n ∧ s8 = .int .i64 k ∧ s7 = .slice pp m kk ∧ ([⟨f0, f1, f2⟩] ++ (l.take k).filter (fun g => !decide (g.op = f0)) : List Fx).length = m ∧ FRow w3.heap.size wr (.slice pp m kk) ([⟨f0, f1, f2⟩] ++ (l.take k).filter (fun g => !decide (g.op = f0))) ∧ Below w3.heap.size w3 wr) (fun _ s8 _ => n - (intOf s8).toNat)
      case atStart => exact ⟨0, 1, _, 1, Nat.zero_le _, rfl, rfl, rfl, ROW0.out, (Below.refl _ _).alloc (Nat.le_refl _) _⟩
      case round =>
        obtain ⟨wo, hwo⟩ : ∃ wo : World, wo = wr := ⟨_, rfl⟩
        subst hwo
        obtain ⟨k, m, pp, kk, hk, rfl, rfl, hm, hrow, hbel⟩ := hrel
        have hbw : Below w.heap.size w wo := B3.out.trans (hbel.mono B3.out.size)
        have HMM := Lib.hid hm
        have ROW := Lib.hid hrow
        have HB := Lib.hid hbel
        have hmk : m ≤ k + 1 := by rw [← hm]; have := LEN.out k; simp; exact this
        clear hm hrow q0 q1 q2
        by_cases hlt : k < n
        · obtain ⟨bb, off, rfl, hbb, hcc⟩ := fix_at h1.out (by omega)
          obtain ⟨a0, a1, a2⟩ := (hcc.below hbb hbw).fx k (by rw [hl.out]; exact hlt)
          have LK := LF.out k hlt
          obtain ⟨x, hx⟩ : ∃ x, x = l.getD k default := ⟨_, rfl⟩
          rw [← hx] at a0 a1 a2 LK
          obtain ⟨c0, c1, c2⟩ := (FB3.out.below hbel FB3.out.lt).cells
          obtain ⟨x0, x1, x2⟩ := x
          simp only at a0 a1 a2 c0 c1 c2 LK
          have s1 : (k : Int) < (n : Int) := by omega
          have hbbo : bb < wo.heap.size := Nat.lt_of_lt_of_le hbb hbw.size
          clear hx hcc hbel hbw
          by_cases e : x0 = f0
          · rw [if_pos e, List.append_nil] at LK
            have LKH := Lib.hid LK
            have g' : (x0.toList == f0.toList) = true := by rw [e]; simp
            have g2 : (x0.toList != f0.toList) = false := by rw [bne, g']; rfl
            clear LK e
            go_wp2
            go_quiet (fail)
            all_goals
              go_wp2
              go_roundw
              case rel => exact ⟨k + 1, m, pp, kk, by omega, by go_num, rfl, by rw [LKH.out]; exact HMM.out, by rw [LKH.out]; exact ROW.out.after (below_drewN (Below.refl _ _) _), HB.out.trans ((below_drewN (Below.refl _ _) _).mono HB.out.size)⟩
              case measure => simp [intOf]; omega
          · rw [if_neg e] at LK
            have LKH := Lib.hid LK
            have g' : (x0.toList == f0.toList) = false := by rw [bytes_beq]; simpa using e
            have g2 : (x0.toList != f0.toList) = true := by rw [bne, g']; rfl
            clear LK e
            go_wp2
            go_quiet (fail)
            all_goals
              have b5 : Below wo.heap.size wo (wo.drewN nq) := below_drewN (Below.refl _ _) _
              have r0 : (wo.drewN nq).cell? ⟨bb, off + k * 3, none⟩ = some (.string x0) := (b5.cell (p := ⟨bb, off + k * 3, none⟩) hbbo).trans a0
              have r1 : (wo.drewN nq).cell? ⟨bb, off + k * 3 + 1, none⟩ = some (.int .i64 x1) := (b5.cell (p := ⟨bb, off + k * 3 + 1, none⟩) hbbo).trans a1
              have r2 : (wo.drewN nq).cell? ⟨bb, off + k * 3 + 2, none⟩ = some (.int .i64 x2) := (b5.cell (p := ⟨bb, off + k * 3 + 2, none⟩) hbbo).trans a2
              obtain ⟨w5, hw5⟩ : ∃ w5, w5 = wo.drewN nq := ⟨_, rfl⟩
              rw [← hw5] at b5 r0 r1 r2 ⊢
              have BA : Hid (Below wo.heap.size wo (w5.alloc (.cells #[.string x0, .int .i64 x1, .int .i64 x2] 24))) := Lib.hid (b5.trans (((Below.refl _ _).alloc (Nat.le_refl _) _).mono b5.size))
              have OWN : Hid ((w5.alloc (.cells #[.string x0, .int .i64 x1, .int .i64 x2] 24)).ownsRow w3.heap.size 24 3 (.slice pp m kk) m (fxCells ([⟨f0, f1, f2⟩] ++ (l.take k).filter (fun g => !decide (g.op = f0))))) := Lib.hid (by have := ROW.out.after BA.out; unfold FRow at this; rw [HMM.out] at this; exact this)
              have HM : Hid (m + 1 ≤ maxLen ∧ (m + 1) * 32 ≤ 140737488355328) := Lib.hid ⟨by unfold maxLen; omega, by omega⟩
              clear hw5 b5 a0 a1 a2 c0 c1 c2
              go_wp2_with (at_builtin; refine wpList_append_any _ rfl _ _ 22 rfl w3.heap.size 24 i0 zeroFix 3 32 Try.underlying22 HI.out.1 HI.out.2.1 HI.out.2.2.1 HI.out.2.2.2 rfl (by decide) (.slice pp m kk) m _ rfl OWN.out (some ⟨w5.heap.size, 0, none⟩) 1 1 (Fx.cells ⟨x0, x1, x2⟩) rfl rfl (fun _ => ⟨_, rfl, fcells_new _ ⟨x0, x1, x2⟩⟩) (fcells_one _) HM.out.1 HM.out.2 (Nat.le_trans HB.out.size BA.out.size) ?_; intro p' cap' w6 hown hgrow hblk; have HO := Lib.hid hown; have HGr := Lib.hid hgrow; clear hown hgrow hblk)
              go_roundw
              case rel =>
                refine ⟨k + 1, m + 1, p', cap', by omega, by go_num, rfl, by rw [LKH.out, List.length_append, HMM.out]; rfl, by rw [LKH.out]; exact FRow.put HMM.out HO.out, ?_⟩
                exact (HB.out.trans (BA.out.mono HB.out.size)).grown HGr.out (Nat.le_trans HB.out.size BA.out.size) fun _ hg => (World.ownsRow.there OWN.out hg).1
              case measure => simp [intOf]; omega
        · obtain rfl : k = n := by omega
          have hall : ([⟨f0, f1, f2⟩] ++ (l.take k).filter (fun g => !decide (g.op = f0)) : List Fx) = allL l ⟨f0, f1, f2⟩ := by
            rw [List.take_of_length_le (by rw [hl.out]; exact Nat.le_refl _)]
            rfl
          rw [hall] at HMM ROW
          have m1 : 1 ≤ m := by rw [← HMM.out]; simp [allL]
          obtain ⟨A, hA⟩ : ∃ A, A = allL l ⟨f0, f1, f2⟩ := ⟨_, rfl⟩
          rw [← hA] at HMM ROW HR
          clear hall LF LEN hbel hA hbw
          by_cases h4 : 400 < m
          · have E : Hid (R = ([], 40)) := Lib.hid (by rw [HR.out, if_pos (by rw [HMM.out]; exact h4)])
            have d : decide ((400 : Int) < (m : Int)) = true := by simp; omega
            go_wp2
            go_ret2
            rw [E.out]
            exact ERet.nil (B3.out.trans (HB.out.mono B3.out.size))
          · have E : Hid (R = (sortR A, 0)) := Lib.hid (by rw [HR.out, if_neg (by rw [HMM.out]; exact h4)])
            have d : decide ((400 : Int) < (m : Int)) = false := by simp; omega
            have m400 : m ≤ 400 := by omega
            have BW := Lib.hid (B3.out.trans (HB.out.mono B3.out.size))
            have FA := ROW.out.at
            obtain ⟨ga, gc, rfl, hga, hcA⟩ := fix_at FA (by omega)
            have CA := Lib.hid hcA
            clear FA hcA h4 hmk
            go_wp2
            go_loopw [9, 10] (fun s9 s10 wr => ∃ (j gb gd c : Nat), j ≤ m ∧ s10 = .int .i64 j ∧ s9 = .slice (some ⟨gb, gd, none⟩) j c ∧ FixAt wr (.slice (some ⟨gb, gd, none⟩) j c) (sortR (A.take j)) ∧ gb < wr.heap.size ∧ j ≤ c ∧ c ≤ maxLen ∧ Below wo.heap.size wo wr) (fun _ s10 _ => m - (intOf s10).toNat)
            case atStart => exact ⟨0, _, _, 0, Nat.zero_le _, rfl, rfl, cut_none (by unfold maxLen; omega), by simp, Nat.le_refl _, by unfold maxLen; omega, (Below.refl _ _).alloc (Nat.le_refl _) _⟩
            case round =>
              obtain ⟨wa, hwa⟩ : ∃ wa : World, wa = wr := ⟨_, rfl⟩
              subst hwa
              obtain ⟨j, gb, gd, c', hj, rfl, rfl, hO, hgb, hjc, hcm, hbel⟩ := hrel
              have HO := Lib.hid hO
              have HCM := Lib.hid hcm
              have HBa := Lib.hid hbel
              clear hO hcm
              by_cases hlt2 : j < m
              · obtain ⟨x, hx⟩ : ∃ x, x = A.getD j default := ⟨_, rfl⟩
                have AX : Hid (∀ W, Below wa.heap.size wa W → W.cell? ⟨ga, gc + j * 3, none⟩ = some (.string x.op) ∧ W.cell? ⟨ga, gc + j * 3 + 1, none⟩ = some (.int .i64 x.level) ∧ W.cell? ⟨ga, gc + j * 3 + 2, none⟩ = some (.int .i64 x.side)) := Lib.hid fun W b => by
                  rw [hx]
                  exact (CA.out.below hga (HBa.out.trans (b.mono HBa.out.size))).fx j (by rw [HMM.out]; exact hlt2)
                have NEXT : Hid (sortR (A.take (j + 1)) = insF x (sortR (A.take j))) := Lib.hid (by rw [hx]; exact sortR_next (by rw [HMM.out]; exact hlt2))
                have OL : Hid ((sortR (A.take j)).length = j) := Lib.hid (by rw [sortR_len, List.length_take, HMM.out]; omega)
                obtain ⟨O, hOO⟩ : ∃ O, O = sortR (A.take j) := ⟨_, rfl⟩
                rw [← hOO] at HO NEXT OL
                obtain ⟨x0, x1, x2⟩ := x
                simp only at AX
                have s1 : (j : Int) < (m : Int) := by omega
                have j400 : j ≤ 400 := by omega
                have CO : Hid (CellsIn wa gb gd (fxCells O)) := Lib.hid (by
                  by_cases h0 : j = 0
                  · obtain rfl : O = [] := List.eq_nil_of_length_eq_zero (by rw [OL.out]; exact h0)
                    intro z u hz
                    simp [fxCells] at hz
                  · obtain ⟨gb', gd', he, _, hcO⟩ := fix_at HO.out (by omega)
                    simp only [Option.some.injEq, Addr.mk.injEq] at he
                    obtain ⟨rfl, rfl, _⟩ := he
                    exact hcO)
                clear hx hOO hbel
                go_wp2
                go_loopw [11] (fun s11 wr => ∃ i : Nat, i ≤ j ∧ s11 = .int .i64 i ∧ (∀ h, h < i → (O.getD h default).key < x0.data.toList) ∧ Below wa.heap.size wa wr) (fun s11 _ => j - (intOf s11).toNat)
                case atStart => exact ⟨0, Nat.zero_le _, rfl, fun h hh => by omega, Below.refl _ _⟩
                case round =>
                  obtain ⟨wb, hwb⟩ : ∃ wb : World, wb = wr := ⟨_, rfl⟩
                  subst hwb
                  obtain ⟨i, hi, rfl, hup, hbel⟩ := hrel
                  have HU := Lib.hid hup
                  have HBb := Lib.hid hbel
                  obtain ⟨a0, a1, a2⟩ := AX.out _ hbel
                  clear hup
                  by_cases hij : i < j
                  · have hcO := CO.out
                    obtain ⟨e0, e1, e2⟩ := (hcO.below hgb hbel).fx i (by rw [OL.out]; exact hij)
                    obtain ⟨y, hy⟩ : ∃ y, y = O.getD i default := ⟨_, rfl⟩
                    rw [← hy] at e0 e1 e2
                    have HY := Lib.hid hy
                    obtain ⟨y0, y1, y2⟩ := y
                    simp only at e0 e1 e2
                    have s2 : (i : Int) < (j : Int) := by omega
                    have i400 : i ≤ 400 := by omega
                    clear hy hcO hbel
                    by_cases hlss : y0.data.toList < x0.data.toList
                    · have gl : Op.bytesLess y0.toList x0.toList = true := by rw [less_bytes]; exact decide_eq_true hlss
                      have HLS := Lib.hid hlss
                      clear hlss
                      go_wp2
                      go_quiet (fail)
                      all_goals
                        go_wp2
                        go_roundw
                        case rel => exact ⟨i + 1, by omega, by go_num, fun h hh => by
                          rcases Nat.lt_or_ge h i with hq | hq
                          · exact HU.out h hq
                          · rw [show h = i by omega, ← HY.out]; exact HLS.out, below_drewN HBb.out _⟩
                        case measure => simp [intOf]; omega
                    · have gl : Op.bytesLess y0.toList x0.toList = false := by rw [less_bytes]; exact decide_eq_false hlss
                      have INS : Hid (insAt ⟨x0, x1, x2⟩ O = i) := Lib.hid (insAt_of _ _ _ (by rw [OL.out]; omega) HU.out (fun _ => by rw [← HY.out]; exact hlss))
                      clear hlss
                      go_wp2
                      go_quiet (fail)
                      all_goals
                        have n4 : ¬ c' = i := by omega
                        clear e0 e1 e2 a0 a1 a2
                        have b0 : Below wb.heap.size wb (wb.drewN nq) := below_drewN (Below.refl _ _) _
                        obtain ⟨w5, hw5⟩ : ∃ w5, w5 = wb.drewN nq := ⟨_, rfl⟩
                        rw [← hw5] at b0 ⊢
                        have B5 := Lib.hid (HBb.out.trans (b0.mono HBb.out.size))
                        have CX := Lib.hid (fun W (b : Below w5.heap.size w5 W) => AX.out W (B5.out.trans (b.mono B5.out.size)))
                        have CW := Lib.hid (fun W (b : Below w5.heap.size w5 W) => CO.out.below hgb (B5.out.trans (b.mono B5.out.size)))
                        have GB := Lib.hid (fun W (b : Below w5.heap.size w5 W) => Nat.lt_of_lt_of_le hgb (Nat.le_trans B5.out.size b.size))
                        have BS := Lib.hid (fun W (b : Below w5.heap.size w5 W) => b.size)
                        have SR1 := Lib.hid (fun W (b : Below w5.heap.size w5 W) => (fx_src (cut_first OL.out hjc HCM.out (GB.out W b) (CW.out W b) i hi)).2)
                        have SR2 := Lib.hid (fun W (b : Below w5.heap.size w5 W) => (fx_src (cut_rest OL.out hjc HCM.out (GB.out W b) (CW.out W b) i hi)).2)
                        have LT : Hid ((fxCells (O.take i)).length = i * 3) := Lib.hid (by rw [length_fxCells, List.length_take, OL.out]; omega)
                        have LD : Hid ((fxCells (O.drop i)).length = (j - i) * 3) := Lib.hid (by rw [length_fxCells, List.length_drop, OL.out])
                        have HM : Hid ((0 + i ≤ maxLen ∧ (0 + i) * 32 ≤ 140737488355328) ∧ (i + 1 ≤ maxLen ∧ (i + 1) * 32 ≤ 140737488355328) ∧ (i + 1 + (j - i) ≤ maxLen ∧ (i + 1 + (j - i)) * 32 ≤ 140737488355328)) := Lib.hid ⟨⟨by unfold maxLen; omega, by omega⟩, ⟨by unfold maxLen; omega, by omega⟩, ⟨by unfold maxLen; omega, by omega⟩⟩
                        obtain ⟨y0', y1', y2'⟩ := CX.out w5 (Below.refl _ _)
                        obtain ⟨v0', v1', v2'⟩ := CX.out (w5.alloc (.cells #[] 24)) ((Below.refl _ _).alloc (Nat.le_refl _) _)
                        have hgw : ga < w5.heap.size := Nat.lt_of_lt_of_le hga (Nat.le_trans HBa.out.size B5.out.size)
                        have hgne : ga ≠ w5.heap.size := by omega
                        have hij' : i ≤ j := by omega
                        have zz1 : (0 : Int) ≤ (i : Int) := by omega
                        have zz2 : (i : Int) ≤ (c' : Int) := by omega
                        have zz3 : (i : Int) ≤ (j : Int) := by omega
                        have zz4 : i ≤ c' := by omega
                        have zz5 : (j : Int) ≤ (c' : Int) := by omega
                        clear hw5 b0
                        go_wp2_with fail
                        go_region_law ((first
                          | (refine step_append_any (by rfl) (.tmp 72) (.tmp 75) 22 (by rfl) w5.heap.size 24 i0 zeroFix 3 32 Try.underlying22 HI.out.1 HI.out.2.1 HI.out.2.2.1 HI.out.2.2.2 rfl (by decide) _ 0 [] rfl (made0 (by first | exact heap_alloc_new _ _ | exact heap_new2 _ _ _ | exact (Below.heap_alloc _ _ _ (by simp)).trans (heap_alloc_new _ _)) (by simp)) (some ⟨gb, gd, none⟩) i c' (fxCells (O.take i)) rfl LT.out (SR1.out _ (by repeat' (first | exact Below.refl _ _ | assumption | apply Below.drew | (refine Below.alloc ?_ ?_ _) | (simp; done)))) (fxCells_one _) HM.out.1.1 HM.out.1.2 (BS.out _ (by repeat' (first | exact Below.refl _ _ | assumption | apply Below.drew | (refine Below.alloc ?_ ?_ _) | (simp; done)))) ?_; intro p1 cap1 wA hown hgrow hblk; have OA := Lib.hid (own_zeros hown); have GA : Hid (World.grownBy _ wA (some _)) := Lib.hid hgrow; have BA := Lib.hid (below_made (w5 := w5) (by repeat' (first | exact Below.refl _ _ | assumption | apply Below.drew | (refine Below.alloc ?_ ?_ _) | (simp; done))) hgrow (by simp)); obtain ⟨u0, u1, u2⟩ := CX.out wA BA.out; clear hown hgrow hblk)
                          | (refine step_append_any (by rfl) (.tmp 76) (.tmp 81) 22 (by rfl) w5.heap.size 24 i0 zeroFix 3 32 Try.underlying22 HI.out.1 HI.out.2.1 HI.out.2.2.1 HI.out.2.2.2 rfl (by decide) (.slice p1 i cap1) i (fxCells (O.take i)) rfl (World.ownsRow.keep OA.out fun g hg => Below.block (by repeat' (first | exact Below.refl _ _ | apply Below.drew | (refine Below.alloc ?_ ?_ _) | (simp; done))) g (World.ownsRow.there OA.out hg).2) _ 1 1 (Fx.cells ⟨x0, x1, x2⟩) rfl rfl (fun _ => ⟨_, rfl, fcells_blk (by first | exact FixBlk.new _ ⟨x0, x1, x2⟩ | exact (GA.out.block _ (by simp <;> omega) (by simp)).trans (by first | exact heap_alloc_new _ _ | exact heap_new2 _ _ _ | exact (Below.heap_alloc _ _ _ (by simp)).trans (heap_alloc_new _ _)))⟩) (fcells_one _) HM.out.2.1.1 HM.out.2.1.2 (BS.out _ (by repeat' (first | exact BA.out | apply Below.drew | (refine Below.alloc ?_ ?_ _) | (exact BA.out.size) | (simp; have := BA.out.size; omega)))) ?_; intro p2 cap2 wB hown hgrow hblk; have OB := Lib.hid hown; have BB := Lib.hid (below_row (w5 := w5) (by repeat' (first | exact BA.out | apply Below.drew | (refine Below.alloc ?_ ?_ _) | (exact BA.out.size) | (simp; have := BA.out.size; omega))) OA.out hgrow); clear hown hgrow hblk)
                          | (refine step_append_any (by rfl) (.tmp 82) (.tmp 85) 22 (by rfl) w5.heap.size 24 i0 zeroFix 3 32 Try.underlying22 HI.out.1 HI.out.2.1 HI.out.2.2.1 HI.out.2.2.2 rfl (by decide) (.slice p2 (i + 1) cap2) (i + 1) (fxCells (O.take i) ++ Fx.cells ⟨x0, x1, x2⟩) rfl (World.ownsRow.keep OB.out fun g hg => Below.block (by repeat' (first | exact Below.refl _ _ | apply Below.drew | (refine Below.alloc ?_ ?_ _) | (simp; done))) g (World.ownsRow.there OB.out hg).2) _ (j - i) (c' - i) (fxCells (O.drop i)) rfl LD.out (SR2.out _ (by repeat' (first | exact BB.out | apply Below.drew | (refine Below.alloc ?_ ?_ _) | (exact BB.out.size) | (simp; have := BB.out.size; omega)))) (fxCells_one _) HM.out.2.2.1 HM.out.2.2.2 (BS.out _ (by repeat' (first | exact BB.out | apply Below.drew | (refine Below.alloc ?_ ?_ _) | (exact BB.out.size) | (simp; have := BB.out.size; omega)))) ?_; intro p3 cap3 wC hown hgrow hblk; have OC := Lib.hid hown; have BC := Lib.hid (below_row (w5 := w5) (by repeat' (first | exact BB.out | apply Below.drew | (refine Below.alloc ?_ ?_ _) | (exact BB.out.size) | (simp; have := BB.out.size; omega))) OB.out hgrow); clear hown hgrow hblk)
                          | fail))
                        all_goals
                          obtain ⟨g3, rfl, hg3, hc3, hm3⟩ := row_some OC.out (by omega)
                          have F3 := Lib.hid (row_next OC.out hij' OL.out)
                          clear u0 u1 u2
                          go_wp2
                          go_roundw
                          case rel => exact ⟨j + 1, g3, 0, cap3, by omega, by go_num, by rw [show i + 1 + (j - i) = j + 1 by omega], by rw [NEXT.out, insF_at, INS.out]; exact F3.out, hg3, by omega, hm3, HBa.out.trans ((B5.out.trans (BC.out.mono B5.out.size)).mono HBa.out.size)⟩
                          case measure => simp [intOf]; omega
                  · obtain rfl : i = j := by omega
                    have INS : Hid (insAt ⟨x0, x1, x2⟩ O = i) := Lib.hid (insAt_of _ _ _ (by rw [OL.out]; omega) HU.out (fun h => by rw [OL.out] at h; omega))
                    clear hbel
                    go_wp2
                    go_quiet (fail)
                    all_goals
                      clear a0 a1 a2
                      have b0 : Below wb.heap.size wb (wb.drewN nq) := below_drewN (Below.refl _ _) _
                      obtain ⟨w5, hw5⟩ : ∃ w5, w5 = wb.drewN nq := ⟨_, rfl⟩
                      rw [← hw5] at b0 ⊢
                      have B5 := Lib.hid (HBb.out.trans (b0.mono HBb.out.size))
                      have CX := Lib.hid (fun W (b : Below w5.heap.size w5 W) => AX.out W (B5.out.trans (b.mono B5.out.size)))
                      have CW := Lib.hid (fun W (b : Below w5.heap.size w5 W) => CO.out.below hgb (B5.out.trans (b.mono B5.out.size)))
                      have GB := Lib.hid (fun W (b : Below w5.heap.size w5 W) => Nat.lt_of_lt_of_le hgb (Nat.le_trans B5.out.size b.size))
                      have BS := Lib.hid (fun W (b : Below w5.heap.size w5 W) => b.size)
                      have SR1 := Lib.hid (fun W (b : Below w5.heap.size w5 W) => (fx_src (cut_first OL.out hjc HCM.out (GB.out W b) (CW.out W b) i hi)).2)
                      have LT : Hid ((fxCells (O.take i)).length = i * 3) := Lib.hid (by rw [length_fxCells, List.length_take, OL.out]; omega)
                      have HM : Hid ((0 + i ≤ maxLen ∧ (0 + i) * 32 ≤ 140737488355328) ∧ (i + 1 ≤ maxLen ∧ (i + 1) * 32 ≤ 140737488355328) ∧ (i + 1 + 0 ≤ maxLen ∧ (i + 1 + 0) * 32 ≤ 140737488355328)) := Lib.hid ⟨⟨by unfold maxLen; omega, by omega⟩, ⟨by unfold maxLen; omega, by omega⟩, ⟨by unfold maxLen; omega, by omega⟩⟩
                      obtain ⟨y0', y1', y2'⟩ := CX.out w5 (Below.refl _ _)
                      obtain ⟨v0', v1', v2'⟩ := CX.out (w5.alloc (.cells #[] 24)) ((Below.refl _ _).alloc (Nat.le_refl _) _)
                      have hgw : ga < w5.heap.size := Nat.lt_of_lt_of_le hga (Nat.le_trans HBa.out.size B5.out.size)
                      have hgne : ga ≠ w5.heap.size := by omega
                      have zz1 : (0 : Int) ≤ (i : Int) := by omega
                      have zz2 : (i : Int) ≤ (c' : Int) := by omega
                      have zz3 : (i : Int) ≤ (i : Int) := by omega
                      have zz4 : i ≤ c' := by omega
                      have zz5 : (i : Int) ≤ (c' : Int) := by omega
                      clear hw5 b0
                      by_cases hci : c' = i
                      all_goals
                        go_wp2_with fail
                        go_region_law ((first
                          | (refine step_append_any (by rfl) (.tmp 72) (.tmp 75) 22 (by rfl) w5.heap.size 24 i0 zeroFix 3 32 Try.underlying22 HI.out.1 HI.out.2.1 HI.out.2.2.1 HI.out.2.2.2 rfl (by decide) _ 0 [] rfl (made0 (by first | exact heap_alloc_new _ _ | exact heap_new2 _ _ _ | exact (Below.heap_alloc _ _ _ (by simp)).trans (heap_alloc_new _ _)) (by simp)) _ i _ (fxCells (O.take i)) rfl LT.out (SR1.out _ (by repeat' (first | exact Below.refl _ _ | assumption | apply Below.drew | (refine Below.alloc ?_ ?_ _) | (simp; done)))) (fxCells_one _) HM.out.1.1 HM.out.1.2 (BS.out _ (by repeat' (first | exact Below.refl _ _ | assumption | apply Below.drew | (refine Below.alloc ?_ ?_ _) | (simp; done)))) ?_; intro p1 cap1 wA hown hgrow hblk; have OA := Lib.hid (own_zeros hown); have GA : Hid (World.grownBy _ wA (some _)) := Lib.hid hgrow; have BA := Lib.hid (below_made (w5 := w5) (by repeat' (first | exact Below.refl _ _ | assumption | apply Below.drew | (refine Below.alloc ?_ ?_ _) | (simp; done))) hgrow (by simp)); obtain ⟨u0, u1, u2⟩ := CX.out wA BA.out; clear hown hgrow hblk)
                          | (refine step_append_any (by rfl) (.tmp 76) (.tmp 81) 22 (by rfl) w5.heap.size 24 i0 zeroFix 3 32 Try.underlying22 HI.out.1 HI.out.2.1 HI.out.2.2.1 HI.out.2.2.2 rfl (by decide) (.slice p1 i cap1) i (fxCells (O.take i)) rfl (World.ownsRow.keep OA.out fun g hg => Below.block (by repeat' (first | exact Below.refl _ _ | apply Below.drew | (refine Below.alloc ?_ ?_ _) | (simp; done))) g (World.ownsRow.there OA.out hg).2) _ 1 1 (Fx.cells ⟨x0, x1, x2⟩) rfl rfl (fun _ => ⟨_, rfl, fcells_blk (by first | exact FixBlk.new _ ⟨x0, x1, x2⟩ | exact (GA.out.block _ (by simp <;> omega) (by simp)).trans (by first | exact heap_alloc_new _ _ | exact heap_new2 _ _ _ | exact (Below.heap_alloc _ _ _ (by simp)).trans (heap_alloc_new _ _)))⟩) (fcells_one _) HM.out.2.1.1 HM.out.2.1.2 (BS.out _ (by repeat' (first | exact BA.out | apply Below.drew | (refine Below.alloc ?_ ?_ _) | (exact BA.out.size) | (simp; have := BA.out.size; omega)))) ?_; intro p2 cap2 wB hown hgrow hblk; have OB := Lib.hid hown; have BB := Lib.hid (below_row (w5 := w5) (by repeat' (first | exact BA.out | apply Below.drew | (refine Below.alloc ?_ ?_ _) | (exact BA.out.size) | (simp; have := BA.out.size; omega))) OA.out hgrow); clear hown hgrow hblk)
                          | (refine step_append_any (by rfl) (.tmp 82) (.tmp 85) 22 (by rfl) w5.heap.size 24 i0 zeroFix 3 32 Try.underlying22 HI.out.1 HI.out.2.1 HI.out.2.2.1 HI.out.2.2.2 rfl (by decide) (.slice p2 (i + 1) cap2) (i + 1) (fxCells (O.take i) ++ Fx.cells ⟨x0, x1, x2⟩) rfl (World.ownsRow.keep OB.out fun g hg => Below.block (by repeat' (first | exact Below.refl _ _ | apply Below.drew | (refine Below.alloc ?_ ?_ _) | (simp; done))) g (World.ownsRow.there OB.out hg).2) _ 0 _ [] rfl rfl (fun h => absurd rfl h) (by simp) HM.out.2.2.1 HM.out.2.2.2 (BS.out _ (by repeat' (first | exact BB.out | apply Below.drew | (refine Below.alloc ?_ ?_ _) | (exact BB.out.size) | (simp; have := BB.out.size; omega)))) ?_; intro p3 cap3 wC hown hgrow hblk; have OC := Lib.hid hown; have BC := Lib.hid (below_row (w5 := w5) (by repeat' (first | exact BB.out | apply Below.drew | (refine Below.alloc ?_ ?_ _) | (exact BB.out.size) | (simp; have := BB.out.size; omega))) OB.out hgrow); clear hown hgrow hblk)
                          | fail))
                        all_goals
                          obtain ⟨g3, rfl, hg3, hc3, hm3⟩ := row_some OC.out (by omega)
                          have F3 := Lib.hid (row_last OC.out OL.out)
                          clear u0 u1 u2
                          go_wp2
                          go_roundw
                          case rel => exact ⟨i + 1, g3, 0, cap3, by omega, by go_num, rfl, by rw [NEXT.out, insF_at, INS.out]; exact F3.out, hg3, by omega, hm3, HBa.out.trans ((B5.out.trans (BC.out.mono B5.out.size)).mono HBa.out.size)⟩
                          case measure => simp [intOf]; omega
              · obtain rfl : j = m := by omega
                have hall : sortR (A.take j) = sortR A := by rw [List.take_of_length_le (by rw [HMM.out]; exact Nat.le_refl _)]
                rw [hall] at HO
                clear hbel hall
                go_wp2
                go_ret2
                rw [E.out]
                exact ⟨_, rfl, HO.out, BW.out.trans (HBa.out.mono BW.out.size)⟩
    · have hf0 : rightF f = false := by simpa using hf
      rw [if_pos hf0]
      rw [hf0] at CR
      obtain ⟨f0, f1, f2⟩ := f
      unfold fxV
      simp only [fxV] at FB C0 CR ⊢
      clear hf hf0
      go_enter Try.func14, Try.ntmps14
      go_wp2_with fail
      refine (C0.out _ ?c1).mono ?_
      case c1 => exact (Below.refl _ _).alloc (Nat.le_refl _) _
      rintro e w1 ⟨rfl, b1⟩
      have fb1 := FB.out.below b1 (by simp)
      have B1 : Hid (Below w.heap.size w w1) := Lib.hid (((Below.refl _ _).alloc (Nat.le_refl _) _).trans (b1.mono (by simp)))
      obtain ⟨q0, q1, q2⟩ := fb1.cells
      clear b1 fb1
      simp only at q0 q1 q2
      go_wp2_with fail
      refine (CR.out _).mono ?_
      rintro e w2 ⟨rfl, b2⟩
      have B2 : Hid (Below w.heap.size w w2) := Lib.hid (B1.out.trans (b2.mono B1.out.size))
      clear b2 q0 q1 q2
      go_wp2
      go_ret2
      exact ERet.nil B2.out
  · rw [if_pos hc]
    obtain ⟨x, hx⟩ : ∃ x, x = checkL rightF l := ⟨_, rfl⟩
    rw [← hx] at C0 hc ⊢
    have g : (x == 0) = false := by simpa using hc
    have g' : (x != 0) = true := by simpa using hc
    obtain ⟨f0, f1, f2⟩ := f
    unfold fxV
    clear hx hc
    go_enter Try.func14, Try.ntmps14
    go_wp2_with fail
    refine (C0.out _ ?c2).mono ?_
    case c2 => exact (Below.refl _ _).alloc (Nat.le_refl _) _
    rintro e w1 ⟨rfl, b1⟩
    have B1 : Hid (Below w.heap.size w w1) := Lib.hid (((Below.refl _ _).alloc (Nat.le_refl _) _).trans (b1.mono (by simp)))
    clear b1
    go_wp2
    go_ret2
    exact ERet.nil B1.out
theorem rset_any (v : Value) (l : List Fx) (f : Fx) (w : World) (h : FixAt w v l) (hn : l.length ≤ 1000000) (hs : Small l) (hf : f.op.size ≤ 100000000) : Calls Try.prog 14 #[v, fxV f] w (ERet (setL rightF l f) w) := by
  obtain ⟨p, c, rfl⟩ := fix_form h
  exact rset_go p _ c l f w (Lib.hid rfl) hn (Lib.hid hs) (Lib.hid hf) (Lib.hid h)
end Go.Proofs.Ytkmgapieoedelaa
