/- The contract of Set. -/
import Derived.Test.YtkmgapieoedelaaFixU
namespace Go.Proofs.Ytkmgapieoedelaa
open Go.Shelf Go.RowKit Go.Lib Go.Sort Go.Proofs.FixMath

/-- A function that returns fixities, and an error. -/
def ERet (r : List Fx × Int) (W : World) (e : Ending) (w' : World) : Prop := ∃ v, e = .returned (.tuple #[v, .int .i64 r.2]) ∧ FixAt w' v r.1 ∧ Below W.heap.size W w'
theorem ERet.nil {x : Int} {W w' : World} (h : Below W.heap.size W w') : ERet ([], x) W (.returned (.tuple #[.slice none 0 0, .int .i64 x])) w' := ⟨_, rfl, FixAt.nil _, h⟩
theorem zf_wrong : rightF zf = false := by rfl
/-- What is left where the former one is struck out. -/
theorem former_filter {l : List Fx} {op : ByteArray} (h1 : ∀ g ∈ l, rightF g = true) (h2 : (l.map Fx.key).Nodup) : l.filter (fun g => !decide (g = (find l op).getD zf)) = l.filter (fun g => !decide (g.op = op)) := by
  refine List.filter_congr fun g hg => ?_
  congr 1
  rw [decide_eq_decide]
  cases hf : find l op with
  | none =>
    rw [Option.getD_none]
    refine ⟨fun e => ?_, fun e => ?_⟩
    · have := h1 g hg
      rw [e, zf_wrong] at this
      cases this
    · exfalso
      unfold find at hf
      rw [List.find?_eq_none] at hf
      exact hf g hg (by simpa using e)
  | some f =>
    rw [Option.getD_some]
    obtain ⟨m1, m2⟩ := find_mem hf
    refine ⟨fun e => by rw [e, m2], fun e => ?_⟩
    obtain ⟨i, hi, rfl⟩ := List.getElem_of_mem hg
    obtain ⟨j, hj, rfl⟩ := List.getElem_of_mem m1
    have := (List.getElem_inj (i := i) (j := j) (h₀ := by simpa using hi) (h₁ := by simpa using hj) h2).1 (by
      have := op_key.1 (e.trans m2.symm)
      simpa using this)
    subst this
    rfl
theorem filter_take {l : List Fx} (q : Fx → Bool) (k : Nat) (hk : k < l.length) : (l.take (k + 1)).filter q = (l.take k).filter q ++ if q (l.getD k default) = true then [l.getD k default] else [] := by
  rw [List.take_succ_eq_append_getElem hk, List.filter_append, get_fx k hk]
  congr 1
  cases h : q l[k] <;> simp [h]
set_option maxRecDepth 100000 in
set_option maxHeartbeats 4000000 in
theorem set_go (p : Option Addr) (n c : Nat) (l : List Fx) (f : Fx) (w : World) (hl : Hid (l.length = n)) (hn : n ≤ 1000000) (hs : Hid (Small l)) (hfs : Hid (f.op.size ≤ 100000000)) (h1 : Hid (FixAt w (.slice p n c) l)) : Calls Try.prog 12 #[.slice p n c, fxV f] w (ERet (setL rightF l f) w) := by
  have C := check_any _ l w h1.out (by rw [hl.out]; exact hn) hs.out
  have FB := Lib.hid (FixBlk.new w f)
  have C0 := Lib.hid (fun W (hW : Below w.heap.size w W) => check_any _ l W (h1.out.below hW) (by rw [hl.out]; exact hn) hs.out)
  have CR := Lib.hid (fun W => fright_any f W hfs.out)
  have CF := Lib.hid (fun W (hW : Below w.heap.size w W) => find_fix _ l f.op W (h1.out.below hW) (by rw [hl.out]; exact hn))
  unfold setL
  clear C
  by_cases hc : checkL rightF l = 0
  · rw [if_neg (by simp [hc])]
    rw [hc] at C0
    have OK := Lib.hid (check_ok hc)
    clear hc
    by_cases hf : rightF f = true
    · rw [if_neg (by simp [hf])]
      rw [hf] at CR
      have FF := Lib.hid (former_filter (l := l) (op := f.op) OK.out.2.1 OK.out.2.2)
      obtain ⟨i0, hi, hz0, hz1, hz2⟩ := infoFix
      have HI := Lib.hid (And.intro hi (And.intro hz0 (And.intro hz1 hz2)))
      obtain ⟨o, ho⟩ : ∃ o, o = find l f.op := ⟨_, rfl⟩
      rw [← ho] at FF CF
      obtain ⟨h, hh⟩ : ∃ h, h = o.getD zf := ⟨_, rfl⟩
      rw [← hh] at FF
      have HH := Lib.hid hh
      obtain ⟨R, hR⟩ : ∃ R, R = if 400 < (allL l f).length then (([], 40) : List Fx × Int) else (sortR (allL l f), 0) := ⟨_, rfl⟩
      rw [← hR]
      have HR := Lib.hid hR
      obtain ⟨f0, f1, f2⟩ := f
      unfold fxV
      simp only [fxV] at FB C0 CR CF ⊢
      clear hi hz0 hz1 hz2 hf ho hh hR
      go_enter Try.func12, Try.ntmps12
      go_wp2_with fail
      refine (C0.out _ ?c0).mono ?_
      case c0 => exact (Below.refl _ _).alloc (Nat.le_refl _) _
      rintro e w1 ⟨rfl, b1⟩
      have fb1 := FB.out.below b1 (by simp)
      have B1 : Hid (Below w.heap.size w w1) := Lib.hid (((Below.refl _ _).alloc (Nat.le_refl _) _).trans (b1.mono (by simp)))
      obtain ⟨q0, q1, q2⟩ := fb1.cells
      have FB1 := Lib.hid fb1
      clear b1 fb1
      simp only at q0 q1 q2
      go_wp2_with fail
      refine (CR.out _).mono ?_
      rintro e w2 ⟨rfl, b2⟩
      have fb2 := FB1.out.below b2 FB1.out.lt
      have B2 : Hid (Below w.heap.size w w2) := Lib.hid (B1.out.trans (b2.mono B1.out.size))
      obtain ⟨q0, q1, q2⟩ := fb2.cells
      have FB2 := Lib.hid fb2
      clear b2 fb2
      simp only at q0 q1 q2
      go_wp2_with fail
      refine (CF.out _ B2.out).mono ?_
      rintro e w3 ⟨rfl, b3⟩
      have fb3 := FB2.out.below b3 FB2.out.lt
      have B3 : Hid (Below w.heap.size w w3) := Lib.hid (B2.out.trans (b3.mono B2.out.size))
      obtain ⟨q0, q1, q2⟩ := fb3.cells
      have hlt3 := fb3.lt
      have FB3 := Lib.hid fb3
      clear b3 fb3
      simp only at q0 q1 q2
      rw [← HH.out]
      have B4 : Hid (Below w.heap.size w (w3.alloc (.cells #[.string h.op, .int .i64 h.level, .int .i64 h.side] 24))) := Lib.hid (B3.out.alloc B3.out.size _)
      have NB := Lib.hid (FixBlk.new w3 h)
      obtain ⟨h0, hl1, hs1⟩ := h
      unfold fxV
      simp only at NB B4 ⊢
      generalize o.isSome = ob at *
      obtain ⟨w4, hw4⟩ : ∃ w4, w4 = w3.alloc (.cells #[.string h0, .int .i64 hl1, .int .i64 hs1] 24) := ⟨_, rfl⟩
      rw [← hw4] at NB B4
      have H4 : Hid (w4.heap.size = w3.heap.size + 1) := Lib.hid (by rw [hw4]; simp)
      have B5 : Hid (Below w4.heap.size w4 ((w3.alloc (.cells #[.string h0, .int .i64 hl1, .int .i64 hs1] 24)).alloc (.cells #[.string f0, .int .i64 f1, .int .i64 f2] 24))) := Lib.hid (by rw [← hw4]; exact (Below.refl _ _).alloc (Nat.le_refl _) _)
      have ROW0 : Hid (FRow w4.heap.size ((w3.alloc (.cells #[.string h0, .int .i64 hl1, .int .i64 hs1] 24)).alloc (.cells #[.string f0, .int .i64 f1, .int .i64 f2] 24)) (.slice (some ⟨w3.heap.size + 1, 0, none⟩) 1 1) [⟨f0, f1, f2⟩]) := Lib.hid (by
        rw [← hw4, ← H4.out]
        exact World.ownsRow_lit (base := w4.heap.size) (e := 24) (size := 3) w4 #[.string f0, .int .i64 f1, .int .i64 f2] 1 (Nat.le_refl _) (by unfold maxLen; omega) rfl)
      have LF : Hid (∀ k, k < n → ([⟨f0, f1, f2⟩] ++ (l.take (k + 1)).filter (fun g => !decide (g = ⟨h0, hl1, hs1⟩)) : List Fx) = [⟨f0, f1, f2⟩] ++ (l.take k).filter (fun g => !decide (g = ⟨h0, hl1, hs1⟩)) ++ if (l.getD k default) = ⟨h0, hl1, hs1⟩ then [] else [l.getD k default]) := Lib.hid fun k hk => by
        rw [filter_take _ k (by rw [hl.out]; exact hk), List.append_assoc]
        congr 2
        by_cases e : l.getD k default = ⟨h0, hl1, hs1⟩
        · rw [if_pos e, if_neg (by rw [e]; simp)]
        · rw [if_neg e, if_pos (by simpa using e)]
      have LEN : Hid (∀ k, ((l.take k).filter (fun g => !decide (g = ⟨h0, hl1, hs1⟩))).length ≤ k) := Lib.hid fun k => Nat.le_trans (List.length_filter_le _ _) (by rw [List.length_take]; omega)
      clear hw4
      go_wp2
      go_loopw [9, 31] (fun s9 s31 wr => ∃ (k m : Nat) (pp : Option Addr) (kk : Nat), k ≤ n ∧ s31 = .int .i64 k ∧ s9 = .slice pp m kk ∧ ([⟨f0, f1, f2⟩] ++ (l.take k).filter (fun g => !decide (g = ⟨h0, hl1, hs1⟩)) : List Fx).length = m ∧ FRow w4.heap.size wr (.slice pp m kk) ([⟨f0, f1, f2⟩] ++ (l.take k).filter (fun g => !decide (g = ⟨h0, hl1, hs1⟩))) ∧ FixBlk wr w3.heap.size ⟨h0, hl1, hs1⟩ ∧ Below w4.heap.size w4 wr) (fun _ s31 _ => n - (intOf s31).toNat)
      case atStart => exact ⟨0, 1, _, 1, Nat.zero_le _, rfl, rfl, rfl, ROW0.out, NB.out.below B5.out (by rw [H4.out]; omega), B5.out⟩
      case round =>
        obtain ⟨wo, hwo⟩ : ∃ wo : World, wo = wr := ⟨_, rfl⟩
        subst hwo
        obtain ⟨k, m, pp, kk, hk, rfl, rfl, hm, hrow, hblk, hbel⟩ := hrel
        have hbw : Below w.heap.size w wo := B4.out.trans (hbel.mono B4.out.size)
        have HMM := Lib.hid hm
        have ROW := Lib.hid hrow
        have HBK := Lib.hid hblk
        have HB := Lib.hid hbel
        have hmk : m ≤ k + 1 := by rw [← hm]; have := LEN.out k; simp; exact this
        clear hm hrow q0 q1 q2
        by_cases hlt : k < n
        · obtain ⟨bb, off, rfl, hbb, hcc⟩ := fix_at h1.out (by omega)
          obtain ⟨a0, a1, a2⟩ := (hcc.below hbb hbw).fx k (by rw [hl.out]; exact hlt)
          have LK := LF.out k hlt
          obtain ⟨x, hx⟩ : ∃ x, x = l.getD k default := ⟨_, rfl⟩
          rw [← hx] at a0 a1 a2 LK
          obtain ⟨c0, c1, c2⟩ := hblk.cells
          have hbl := hblk.lt
          have hne : w3.heap.size ≠ wo.heap.size := by omega
          have hq := fun w => neq_fix x ⟨h0, hl1, hs1⟩ w
          have hgd := fun op a b w => guard_fix op a b #[.string x.op, .int .i64 x.level, .int .i64 x.side] #[.string h0, .int .i64 hl1, .int .i64 hs1] w
          have BX : Hid (Below wo.heap.size wo (wo.alloc (.cells #[.string x.op, .int .i64 x.level, .int .i64 x.side] 24))) := Lib.hid ((Below.refl _ _).alloc (Nat.le_refl _) _)
          obtain ⟨dd, hdd⟩ : ∃ dd, dd = decide (x = ⟨h0, hl1, hs1⟩) := ⟨_, rfl⟩
          rw [← hdd] at hq
          have HD := Lib.hid hdd
          obtain ⟨x0, x1, x2⟩ := x
          simp only at a0 a1 a2 hq hgd c0 c1 c2
          simp only at BX
          have s1 : (k : Int) < (n : Int) := by omega
          clear hx hdd hcc hblk hbel hbw
          cases dd
          · have e : ¬ (⟨x0, x1, x2⟩ : Fx) = ⟨h0, hl1, hs1⟩ := by have := HD.out; simpa using this.symm
            rw [if_neg e] at LK
            have LKH := Lib.hid LK
            have BA : Hid (Below wo.heap.size wo ((wo.alloc (.cells #[.string x0, .int .i64 x1, .int .i64 x2] 24)).alloc (.cells #[.string x0, .int .i64 x1, .int .i64 x2] 24))) := Lib.hid (((Below.refl _ _).alloc (Nat.le_refl _) _).alloc (by simp) _)
            have OWN : Hid (((wo.alloc (.cells #[.string x0, .int .i64 x1, .int .i64 x2] 24)).alloc (.cells #[.string x0, .int .i64 x1, .int .i64 x2] 24)).ownsRow w4.heap.size 24 3 (.slice pp m kk) m (fxCells ([⟨f0, f1, f2⟩] ++ (l.take k).filter (fun g => !decide (g = ⟨h0, hl1, hs1⟩))))) := Lib.hid (by have := ROW.out.after BA.out; unfold FRow at this; rw [HMM.out] at this; exact this)
            have HM : Hid (m + 1 ≤ maxLen ∧ (m + 1) * 32 ≤ 140737488355328) := Lib.hid ⟨by unfold maxLen; omega, by omega⟩
            clear LK e
            go_wp2_with (at_builtin; refine wpList_append_any _ rfl _ _ 22 rfl w4.heap.size 24 i0 zeroFix 3 32 Try.underlying22 HI.out.1 HI.out.2.1 HI.out.2.2.1 HI.out.2.2.2 rfl (by decide) (.slice pp m kk) m _ rfl OWN.out (some ⟨wo.heap.size + 1, 0, none⟩) 1 1 (Fx.cells ⟨x0, x1, x2⟩) rfl rfl (fun _ => ⟨_, rfl, fcells_two _ _ _ ⟨x0, x1, x2⟩⟩) (fcells_one _) HM.out.1 HM.out.2 (Nat.le_trans HB.out.size BA.out.size) ?_; intro p' cap' w5 hown hgrow hblk; have HO := Lib.hid hown; have HGr := Lib.hid hgrow; clear hown hgrow hblk)
            go_roundw
            case rel =>
              refine ⟨k + 1, m + 1, p', cap', by omega, by go_num, rfl, by rw [LKH.out, List.length_append, HMM.out]; rfl, by rw [LKH.out]; exact FRow.put HMM.out HO.out, ?_, ?_⟩
              · have := HBK.out.below BA.out HBK.out.lt
                unfold FixBlk at this ⊢
                rw [HGr.out.block _ (by have := BA.out.size; have := HBK.out.lt; omega) (fun e => by
                  have := (World.ownsRow.there OWN.out e.symm).1
                  rw [H4.out] at this
                  omega)]
                exact this
              · exact (HB.out.trans (BA.out.mono HB.out.size)).grown HGr.out (Nat.le_trans HB.out.size BA.out.size) fun _ hg => (World.ownsRow.there OWN.out hg).1
            case measure => simp [intOf]; omega
          · have e : (⟨x0, x1, x2⟩ : Fx) = ⟨h0, hl1, hs1⟩ := by have := HD.out; simpa using this.symm
            rw [if_pos e, List.append_nil] at LK
            have LKH := Lib.hid LK
            clear LK e
            go_wp2
            go_roundw
            case rel => exact ⟨k + 1, m, pp, kk, by omega, by go_num, rfl, by rw [LKH.out]; exact HMM.out, by rw [LKH.out]; exact ROW.out.after BX.out, HBK.out.below BX.out HBK.out.lt, HB.out.trans (BX.out.mono HB.out.size)⟩
            case measure => simp [intOf]; omega
        · obtain rfl : k = n := by omega
          have hall : ([⟨f0, f1, f2⟩] ++ (l.take k).filter (fun g => !decide (g = ⟨h0, hl1, hs1⟩)) : List Fx) = allL l ⟨f0, f1, f2⟩ := by
            rw [List.take_of_length_le (by rw [hl.out]; exact Nat.le_refl _), FF.out]
            rfl
          rw [hall] at HMM ROW
          clear hall LF LEN hblk hbel
          by_cases h4 : 400 < m
          · have E : Hid (R = ([], 40)) := Lib.hid (by rw [HR.out, if_pos (by rw [HMM.out]; exact h4)])
            have d : decide ((400 : Int) < (m : Int)) = true := by simp; omega
            go_wp2
            go_ret2
            rw [E.out]
            exact ERet.nil (B4.out.trans (HB.out.mono B4.out.size))
          · have E : Hid (R = (sortR (allL l ⟨f0, f1, f2⟩), 0)) := Lib.hid (by rw [HR.out, if_neg (by rw [HMM.out]; exact h4)])
            have d : decide ((400 : Int) < (m : Int)) = false := by simp; omega
            have ND := Lib.hid (allL_nodup (l := l) ⟨f0, f1, f2⟩ OK.out.2.2)
            have S := Lib.hid (sorted_any _ _ wo ROW.out.at (by rw [HMM.out]; omega))
            go_wp2_with fail
            refine S.out.mono ?_
            rintro e w5 ⟨v5, d5, hp5, hs5, rfl, hf5, b5⟩
            have E5 := Lib.hid (sorted_is _ d5 ND.out hp5 hs5)
            obtain ⟨p5, c5, rfl⟩ := fix_form hf5
            have F5 := Lib.hid hf5
            have B5' := Lib.hid b5
            clear hp5 hs5 hf5 b5
            generalize d5.length = n5 at *
            go_wp2
            go_ret2
            rw [E.out]
            exact ⟨.slice p5 n5 c5, rfl, by rw [← E5.out]; exact F5.out, B4.out.trans ((HB.out.trans (B5'.out.mono HB.out.size)).mono B4.out.size)⟩
    · have hf0 : rightF f = false := by simpa using hf
      rw [if_pos hf0]
      rw [hf0] at CR
      obtain ⟨f0, f1, f2⟩ := f
      unfold fxV
      simp only [fxV] at FB C0 CR CF ⊢
      clear hf hf0
      go_enter Try.func12, Try.ntmps12
      go_wp2_with fail
      refine (C0.out _ ?c1).mono ?_
      case c1 => exact (Below.refl _ _).alloc (Nat.le_refl _) _
      rintro e w1 ⟨rfl, b1⟩
      have fb1 := FB.out.below b1 (by simp)
      have B1 : Hid (Below w.heap.size w w1) := Lib.hid (((Below.refl _ _).alloc (Nat.le_refl _) _).trans (b1.mono (by simp)))
      obtain ⟨q0, q1, q2⟩ := fb1.cells
      clear b1 fb1
      simp only at q0 q1 q2
      go_wp2_with fail
      refine (CR.out _).mono ?_
      rintro e w2 ⟨rfl, b2⟩
      have B2 : Hid (Below w.heap.size w w2) := Lib.hid (B1.out.trans (b2.mono B1.out.size))
      clear b2 q0 q1 q2
      go_wp2
      go_ret2
      exact ERet.nil B2.out
  · rw [if_pos hc]
    obtain ⟨x, hx⟩ : ∃ x, x = checkL rightF l := ⟨_, rfl⟩
    rw [← hx] at C0 hc ⊢
    have g : (x == 0) = false := by simpa using hc
    have g' : (x != 0) = true := by simpa using hc
    obtain ⟨f0, f1, f2⟩ := f
    unfold fxV
    clear hx hc
    go_enter Try.func12, Try.ntmps12
    go_wp2_with fail
    refine (C0.out _ ?c2).mono ?_
    case c2 => exact (Below.refl _ _).alloc (Nat.le_refl _) _
    rintro e w1 ⟨rfl, b1⟩
    have B1 : Hid (Below w.heap.size w w1) := Lib.hid (((Below.refl _ _).alloc (Nat.le_refl _) _).trans (b1.mono (by simp)))
    clear b1
    go_wp2
    go_ret2
    exact ERet.nil B1.out
theorem set_any (v : Value) (l : List Fx) (f : Fx) (w : World) (h : FixAt w v l) (hn : l.length ≤ 1000000) (hs : Small l) (hf : f.op.size ≤ 100000000) : Calls Try.prog 12 #[v, fxV f] w (ERet (setL rightF l f) w) := by
  obtain ⟨p, c, rfl⟩ := fix_form h
  exact set_go p _ c l f w (Lib.hid rfl) hn (Lib.hid hs) (Lib.hid hf) (Lib.hid h)
end Go.Proofs.Ytkmgapieoedelaa
