/- The contracts of Check: the program's and the document's. -/
import Derived.Test.YtkmgapieoedelaaFixS
import Derived.Deep.QuietTactic
import Derived.BigQuiet
import Derived.IntWalk
namespace Go.Proofs.Ytkmgapieoedelaa
open Go.Shelf Go.RowKit Go.Lib Go.Sort Go.Proofs.FixMath

theorem below_drewN {B : Nat} {w wr : World} (h : Below B w wr) (n : Nat) : Below B w (wr.drewN n) := ⟨h.os, h.tape, h.output, h.size, h.block⟩
/-- A fixity whose text is not too long for the model. -/
abbrev SFx := {f : Fx // f.op.size ≤ 100000000}
instance : Inhabited SFx := ⟨⟨zf, by decide⟩⟩
/-- Lists whose texts aren't too long. -/
def Small (fs : List Fx) : Prop := ∀ f ∈ fs, f.op.size ≤ 100000000
theorem wrong_any (x : SFx) (W w : World) (hb : Below w.heap.size w W) : Calls Try.prog 33 #[fxV x.1] W fun e w' => e = .returned (.bool (!rightF x.1)) ∧ Below w.heap.size w w' := by
  have C := Lib.hid (fun W => fright_any x.1 W x.2)
  have HB := Lib.hid hb
  have hc := (FixBlk.new W x.1).cells
  obtain ⟨⟨s, l, d⟩, _⟩ := x
  simp only at C hc ⊢
  generalize rightF ⟨s, l, d⟩ = r at *
  clear hb hc
  show Calls Try.prog 33 #[.agg #[.string s, .int .i64 l, .int .i64 d]] W _
  go_enter Try.func33, Try.ntmps33
  go_wp2_with fail
  refine (C.out _).mono ?_
  rintro e w1 ⟨rfl, b1⟩
  have B1 := Lib.hid b1
  clear b1
  go_wp2
  go_ret
  exact ⟨rfl, (HB.out.alloc HB.out.size _).trans (B1.out.mono (by have := HB.out.size; simp; omega))⟩
theorem attach_any (fs : List Fx) (h : ∀ f ∈ fs, f.op.size ≤ 100000000) (p : Fx → Bool) : ((fs.attachWith _ h).any fun x : SFx => p x.1) = fs.any p := by
  induction fs with
  | nil => rfl
  | cons f fs ih => rw [List.attachWith_cons, List.any_cons, List.any_cons, ih]
theorem contains_zero (p : Option Addr) (c : Nat) (g : Value) (w : World) : Calls Try.prog 34 #[.slice p 0 c, g] w fun e w' => e = .returned (.bool false) ∧ w = w' := by
  go_enter Try.func34, Try.ntmps34
  go_wp2_with fail
  refine (IndexFunc_zero _ _ _ _).mono ?_
  rintro e w1 ⟨rfl, rfl⟩
  go_wp2
  go_ret
  exact ⟨rfl, rfl⟩
theorem contains_some (b off n c : Nat) (fs : List Fx) (w : World) (hl : fs.length = n) (hn : n ≤ 1000000) (hs : ∀ f ∈ fs, f.op.size ≤ 100000000) (hb : b < w.heap.size) (hc : CellsIn w b off (fxCells fs)) : Calls Try.prog 34 #[.slice (some ⟨b, off, none⟩) n c, .func (.func 33) #[] #[]] w (RB (fs.any fun f => !rightF f) w) := by
  have eg : ∀ args w, (callFunc 33 args).run Try.prog w = .ok (.enter 33 args) w := enters_of Try.func33 (by kernel_rfl) rfl
  have hl2 : (fs.attachWith _ hs).length = n := by rw [List.length_attachWith, hl]
  have hcon := AnyQ.slices_ContainsFunc containsLays 3 Try.isAgg24 Try.sizeOf24 (fun x : SFx => Fx.cells x.1) (fun _ => rfl) (fun x : SFx => !rightF x.1) 33 #[] eg b off n c (fs.attachWith _ hs) w
    (fun W x hW => wrong_any x W w hW) (by rw [hl2]; exact Nat.le_refl _) (by omega) hb (fun j hj i v hi => by
      rw [hl2, ← hl] at hj
      refine hc.enc j hj i v ?_
      rw [getElem!_pos _ j (by rw [List.length_attachWith]; exact hj), List.getElem_attachWith] at hi
      rw [getElem!_pos fs j hj]
      exact hi)
  change Calls Try.prog 34 _ _ _ at hcon
  rw [List.take_of_length_le (by rw [hl2]; exact Nat.le_refl _), attach_any fs hs (fun f => !rightF f)] at hcon
  exact hcon
theorem contains_any (v : Value) (fs : List Fx) (w : World) (h : FixAt w v fs) (hn : fs.length ≤ 1000000) (hs : Small fs) : Calls Try.prog 34 #[v, .func (.func 33) #[] #[]] w (RB (fs.any fun f => !rightF f) w) := by
  obtain ⟨_, p, c, rfl, _, _, hp⟩ := h
  rcases fs with _ | ⟨x, fs⟩
  · exact (contains_zero p c _ w).mono fun e w' ⟨he, hw⟩ => ⟨he, by rw [← hw]; exact Below.refl _ _⟩
  · obtain ⟨b, off, rfl, hb, hc⟩ := hp (by simp)
    exact contains_some b off _ c (x :: fs) w rfl hn hs hb hc
/-- A function that returns a number. -/
def IRet (x : Int) (W : World) (e : Ending) (w' : World) : Prop := e = .returned (.int .i64 x) ∧ Below W.heap.size W w'
def dupE (b : Bool) : Int := if b = true then 41 else 0
def twoE (a b : Bool) : Int := if a = true then 40 else dupE b
theorem check_form (l : List Fx) (h4 : ¬ 400 < l.length) : checkL rightF l = twoE (l.any fun f => !rightF f) (dupB l) := by
  unfold checkL twoE dupE
  by_cases h : l.any (fun f => !rightF f) = true
  · rw [if_pos (.inr h), if_pos h]
  · rw [if_neg (by intro e; rcases e with e | e; exact h4 e; exact h e), if_neg h]
theorem getD_same {d : List Fx} {i : Nat} : d.getD i default = (d[i]?).getD default := List.getD_eq_getElem?_getD
set_option maxHeartbeats 1000000 in
/-- The part of Check that looks for two that stand side by side. -/
theorem check_go (p : Option Addr) (n c : Nat) (fs : List Fx) (w : World) (hl : Hid (fs.length = n)) (hn : n ≤ 1000000) (hs : Hid (Small fs)) (h : Hid (FixAt w (.slice p n c) fs)) : Calls Try.prog 19 #[.slice p n c] w (IRet (checkL rightF fs) w) := by
  by_cases h4 : 400 < n
  · have e : checkL rightF fs = 40 := by unfold checkL; rw [if_pos (.inl (by rw [hl.out]; exact h4))]
    rw [e]
    have g : decide ((400 : Int) < (n : Int)) = true := by simp; omega
    go_enter Try.func19, Try.ntmps19
    go_wp2
    go_ret
    exact ⟨rfl, Below.refl _ _⟩
  · have e := Lib.hid (check_form fs (by rw [hl.out]; exact h4))
    have g : decide ((400 : Int) < (n : Int)) = false := by simp; omega
    have C := Lib.hid (fun W (hW : Below w.heap.size w W) => contains_any _ fs W (h.out.below hW) (by rw [hl.out]; exact hn) hs.out)
    rw [e.out]
    obtain ⟨r, hr⟩ : ∃ r, r = fs.any (fun f => !rightF f) := ⟨_, rfl⟩
    rw [← hr] at C ⊢
    have HR := Lib.hid hr
    clear hr e
    cases r
    · rw [show twoE false (dupB fs) = dupE (dupB fs) from rfl]
      obtain ⟨bb, hbb⟩ : ∃ bb, bb = dupB fs := ⟨_, rfl⟩
      rw [← hbb]
      have HBB := Lib.hid hbb
      clear hbb
      go_enter Try.func19, Try.ntmps19
      go_wp2_with fail
      refine (C.out _ ?c1).mono ?_
      case c1 => exact Below.refl _ _
      rintro e w1 ⟨rfl, b1⟩
      have B1 := Lib.hid b1
      clear b1
      go_wp2_with fail
      refine (sorted_any _ fs _ (h.out.below B1.out) (by rw [hl.out]; exact hn)).mono ?_
      rintro e w2 ⟨v2, d, hp, hd, rfl, f2, b2⟩
      have B2 := Lib.hid (B1.out.trans (b2.mono B1.out.size))
      have hdn : d.length = n := by rw [hp.length_eq]; exact hl.out
      have DP := Lib.hid ((dup_perm hp).trans HBB.out.symm)
      have DS := Lib.hid (@dup_sorted d hd)
      have DT := Lib.hid (fun i k a b c => @dup_two d i k a b c)
      obtain ⟨q, k2, rfl⟩ := fix_form f2
      rw [hdn]
      have HN := Lib.hid hdn
      have F2 := Lib.hid f2
      clear hp hd f2 b2 hdn HBB
      go_wp2
      go_loopw [5] (fun i wr => ∃ k : Nat, 1 ≤ k ∧ (k ≤ n ∨ k = 1) ∧ i = .int .i64 k ∧ Below w2.heap.size w2 wr ∧ ∀ j, j + 1 < k → ¬ (d.getD j default).op = (d.getD (j + 1) default).op) (fun i _ => n + 1 - (intOf i).toNat)
      case atStart => exact ⟨1, Nat.le_refl _, .inr rfl, rfl, Below.refl _ _, fun j hj => by omega⟩
      case round =>
        obtain ⟨wo, hwo⟩ : ∃ wo : World, wo = wr := ⟨_, rfl⟩
        subst hwo
        obtain ⟨k, hk1, hk, rfl, hbel, hpre⟩ := hrel
        have HP := Lib.hid hpre
        clear hpre
        by_cases hlt : k < n
        · have hcc : ∃ b off, q = some ⟨b, off, none⟩ ∧ b < w2.heap.size ∧ CellsIn w2 b off (fxCells d) := by
            obtain ⟨_, p', c', hv, _, _, hh⟩ := F2.out
            rw [HN.out] at hv hh
            simp only [Value.slice.injEq] at hv
            rw [hv.1]
            exact hh (by omega)
          obtain ⟨b, off, rfl, hb, hc⟩ := hcc
          have hc' := hc.below hb hbel
          obtain ⟨a0, a1, a2⟩ := hc'.fx (k - 1) (by rw [HN.out]; omega)
          obtain ⟨e0, e1, e2⟩ := hc'.fx k (by rw [HN.out]; omega)
          have T := Lib.hid (DT.out k (k - 1) (by omega) (by rw [HN.out]; exact hlt))
          obtain ⟨x, hxk⟩ : ∃ x, x = d.getD (k - 1) default := ⟨_, rfl⟩
          obtain ⟨y, hyk⟩ : ∃ y, y = d.getD k default := ⟨_, rfl⟩
          rw [← hxk] at a0 a1 a2 T
          rw [← hyk] at e0 e1 e2 T
          have HX := Lib.hid hxk
          have HY := Lib.hid hyk
          have HB := Lib.hid hbel
          clear hxk hyk hc hc' hbel
          obtain ⟨x0, x1, x2⟩ := x
          obtain ⟨y0, y1, y2⟩ := y
          simp only at a0 a1 a2 e0 e1 e2 T
          have s1 : IntKind.i64.wrap ((k : Int) - 1) = ((k - 1 : Nat) : Int) := by rw [IntWalk.i64_in _ (by omega)]; omega
          have s2 : ((k - 1 : Nat) : Int) < (n : Int) := by omega
          have s3 : (k : Int) < (n : Int) := by omega
          by_cases g : x0 = y0
          · have E := Lib.hid (T.out g)
            have g' : (x0.toList == y0.toList) = true := by rw [g]; simp
            clear g T
            go_wp2
            go_quiet (fail)
            all_goals
              go_wp2
              go_ret
              rw [← DP.out, E.out]
              exact ⟨rfl, B2.out.trans ((below_drewN HB.out _).mono B2.out.size)⟩
          · have G := Lib.hid g
            have g' : (x0.toList == y0.toList) = false := by rw [bytes_beq]; simpa using g
            clear g T
            go_wp2
            go_quiet (fail)
            all_goals
              go_wp2
              go_roundw
              case rel => exact ⟨k + 1, by omega, by omega, by go_num, below_drewN HB.out _, fun j hj => by
                rcases Nat.lt_or_ge (j + 1) k with h | h
                · exact HP.out j h
                · rw [show j = k - 1 by omega, show k - 1 + 1 = k by omega, ← HX.out, ← HY.out]; exact G.out⟩
              case measure => simp [intOf]; omega
        · have E := Lib.hid (DS.out fun i hi => HP.out i (by rw [HN.out] at hi; omega))
          clear HP
          go_wp2
          go_ret
          rw [← DP.out, E.out]
          exact ⟨rfl, B2.out.trans (hbel.mono B2.out.size)⟩
    · rw [show twoE true (dupB fs) = 40 from rfl]
      go_enter Try.func19, Try.ntmps19
      go_wp2_with fail
      refine (C.out _ ?c2).mono ?_
      case c2 => exact Below.refl _ _
      rintro e w1 ⟨rfl, b1⟩
      have B1 := Lib.hid b1
      clear b1
      go_wp2
      go_ret
      exact ⟨rfl, B1.out⟩
theorem check_any (v : Value) (fs : List Fx) (w : World) (h : FixAt w v fs) (hn : fs.length ≤ 1000000) (hs : Small fs) : Calls Try.prog 19 #[v] w (IRet (checkL rightF fs) w) := by
  obtain ⟨p, c, rfl⟩ := fix_form h
  exact check_go p _ c fs w (Lib.hid rfl) hn (Lib.hid hs) (Lib.hid h)
/-- What stands in the document's variable: whether two so far are of one operator. -/
def TwoSo (fs : List Fx) (k : Nat) (t : Bool) : Prop := (t = true → dupB fs = true) ∧ (t = false → ∀ i j, j < i → i < k → ¬ (fs.getD j default).op = (fs.getD i default).op)
def TwoAt (fs : List Fx) (k m : Nat) (t : Bool) : Prop := (t = true → dupB fs = true) ∧ (t = false → (∀ i j, j < i → i < k → ¬ (fs.getD j default).op = (fs.getD i default).op) ∧ ∀ j, j < m → ¬ (fs.getD j default).op = (fs.getD k default).op)
theorem TwoSo.start {fs : List Fx} {k : Nat} {t : Bool} (h : TwoSo fs k t) : TwoAt fs k 0 t := ⟨h.1, fun e => ⟨h.2 e, fun j hj => by omega⟩⟩
theorem TwoAt.done {fs : List Fx} {k : Nat} {t : Bool} (h : TwoAt fs k k t) : TwoSo fs (k + 1) t := ⟨h.1, fun e i j hji hik => by
  rcases Nat.lt_or_ge i k with hh | hh
  · exact (h.2 e).1 i j hji hh
  · have hi : i = k := by omega
    subst hi
    exact (h.2 e).2 j hji⟩
theorem TwoAt.hit {fs : List Fx} {k m : Nat} {t : Bool} (_h : TwoAt fs k m t) (hm : m < k) (hk : k < fs.length) (e : (fs.getD m default).op = (fs.getD k default).op) : TwoAt fs k (m + 1) true := ⟨fun _ => dup_two k m hm hk e, fun e => by cases e⟩
theorem TwoAt.stay {fs : List Fx} {k m : Nat} (h : TwoAt fs k m true) : TwoAt fs k (m + 1) true := ⟨h.1, fun e => by cases e⟩
theorem TwoAt.miss {fs : List Fx} {k m : Nat} (h : TwoAt fs k m false) (e : ¬ (fs.getD m default).op = (fs.getD k default).op) : TwoAt fs k (m + 1) false := ⟨h.1, fun e' => ⟨(h.2 e').1, fun j hj => by
  rcases Nat.lt_or_ge j m with hh | hh
  · exact (h.2 e').2 j hh
  · rw [show j = m by omega]; exact e⟩⟩
theorem TwoSo.end {fs : List Fx} {t : Bool} (h : TwoSo fs fs.length t) : dupB fs = t := by
  cases t
  · exact dup_none fun i k hki hi => h.2 rfl i k hki hi
  · exact h.1 rfl
theorem any_hit {fs : List Fx} {k : Nat} (hk : k < fs.length) (h : rightF (fs.getD k default) = false) : fs.any (fun f => !rightF f) = true := List.any_eq_true.2 ⟨_, getD_mem hk, by rw [h]; rfl⟩
theorem any_miss {fs : List Fx} (h : ∀ j, j < fs.length → rightF (fs.getD j default) = true) : fs.any (fun f => !rightF f) = false := by
  rw [Bool.eq_false_iff]
  intro e
  obtain ⟨f, hf, e⟩ := List.any_eq_true.1 e
  obtain ⟨j, hj, rfl⟩ := List.getElem_of_mem hf
  have := h j hj
  rw [List.getD_eq_getElem?_getD, List.getElem?_eq_getElem hj, Option.getD_some] at this
  simp [this] at e
theorem rcheck_zero (p : Option Addr) (c : Nat) (w : World) : Calls Try.prog 20 #[.slice p 0 c] w (IRet 0 w) := by
  go_enter Try.func20, Try.ntmps20
  go_wp2
  refine wp_loop_rounds 1 ?_
  rw [rounds_succ]
  go_wp2
  go_ret
  exact ⟨rfl, Below.refl _ _⟩
set_option maxHeartbeats 2000000 in
theorem rcheck_some (b off n c : Nat) (fs : List Fx) (w : World) (hl : Hid (fs.length = n)) (hn : n ≤ 1000000) (hs : Hid (Small fs)) (hb : b < w.heap.size) (hc : Hid (CellsIn w b off (fxCells fs))) : Calls Try.prog 20 #[.slice (some ⟨b, off, none⟩) n c] w (IRet (checkL rightF fs) w) := by
  by_cases h4 : 400 < n
  · have e : checkL rightF fs = 40 := by unfold checkL; rw [if_pos (.inl (by rw [hl.out]; exact h4))]
    rw [e]
    have g : decide ((400 : Int) < (n : Int)) = true := by simp; omega
    go_enter Try.func20, Try.ntmps20
    go_wp2
    go_ret
    exact ⟨rfl, Below.refl _ _⟩
  · have e := check_form fs (by rw [hl.out]; exact h4)
    rw [e]
    clear e
    have g : decide ((400 : Int) < (n : Int)) = false := by simp; omega
    have HIT := Lib.hid (fun k a b => @any_hit fs k a b)
    have MISS := Lib.hid (@any_miss fs)
    have END := Lib.hid (fun t a => @TwoSo.end fs t a)
    obtain ⟨r1, hr1⟩ : ∃ r, r = fs.any (fun f => !rightF f) := ⟨_, rfl⟩
    obtain ⟨r2, hr2⟩ : ∃ r, r = dupB fs := ⟨_, rfl⟩
    rw [← hr1] at HIT MISS ⊢
    rw [← hr2] at END ⊢
    have HR2 := Lib.hid hr2
    clear hr1 hr2
    obtain ⟨rr, hrr⟩ : ∃ rr, rr = twoE r1 r2 := ⟨_, rfl⟩
    rw [← hrr]
    have HRR := Lib.hid hrr
    clear hrr
    go_enter Try.func20, Try.ntmps20
    go_wp2
    go_loopw [3, 4] (fun tw i wr => ∃ (k : Nat) (t : Bool), k ≤ n ∧ i = .int .i64 k ∧ tw = .bool t ∧ TwoSo fs k t ∧ (∀ j, j < k → rightF (fs.getD j default) = true) ∧ Below w.heap.size w wr) (fun _ i _ => n - (intOf i).toNat)
    case atStart => exact ⟨0, false, Nat.zero_le _, rfl, rfl, ⟨(fun h => by cases h), fun _ i j hji hi => by omega⟩, fun j hj => by omega, Below.refl _ _⟩
    case round =>
      obtain ⟨wo, hwo⟩ : ∃ wo : World, wo = wr := ⟨_, rfl⟩
      subst hwo
      obtain ⟨k, t, hk, rfl, rfl, htwo, hright, hbel⟩ := hrel
      have HT := Lib.hid htwo
      have HRt := Lib.hid hright
      have HB := Lib.hid hbel
      clear htwo hright
      by_cases hlt : k < n
      · obtain ⟨q0, q1, q2⟩ := (hc.out.below hb hbel).fx k (by rw [hl.out]; exact hlt)
        obtain ⟨f, hfk⟩ : ∃ f, f = fs.getD k default := ⟨_, rfl⟩
        have C := fun W => rfright_any f W (by rw [hfk]; exact hs.out _ (getD_mem (by rw [hl.out]; exact hlt)))
        rw [← hfk] at q0 q1 q2
        have HK := Lib.hid hfk
        obtain ⟨f0, f1, f2⟩ := f
        simp only at q0 q1 q2
        obtain ⟨r, hr⟩ : ∃ r, r = rightF ⟨f0, f1, f2⟩ := ⟨_, rfl⟩
        rw [← hr] at C
        have HR := Lib.hid hr
        have CC := Lib.hid C
        have s3 : (k : Int) < (n : Int) := by omega
        clear hfk C hr hbel
        cases r
        · have E := Lib.hid (HIT.out k (by rw [hl.out]; exact hlt) (by rw [← HK.out]; exact HR.out.symm))
          go_wp2_with fail
          refine (CC.out _).mono ?_
          rintro e w1 ⟨rfl, b1⟩
          have B1 := Lib.hid (HB.out.trans (b1.mono HB.out.size))
          clear b1 q0 q1 q2
          go_wp2
          go_ret
          refine ⟨?_, B1.out⟩
          rw [HRR.out, E.out]
          rfl
        · go_wp2_with fail
          refine (CC.out _).mono ?_
          rintro e w1 ⟨rfl, b1⟩
          have B1 := Lib.hid (HB.out.trans (b1.mono HB.out.size))
          clear b1 q0 q1 q2
          go_wp2
          go_loopw [3, 5] (fun tw i wr => ∃ (m : Nat) (t : Bool), m ≤ k ∧ i = .int .i64 m ∧ tw = .bool t ∧ TwoAt fs k m t ∧ Below w.heap.size w wr) (fun _ i _ => k - (intOf i).toNat)
          case atStart => exact ⟨0, t, Nat.zero_le _, rfl, rfl, HT.out.start, B1.out⟩
          case round =>
            obtain ⟨wo, hwo⟩ : ∃ wo : World, wo = wr := ⟨_, rfl⟩
            subst hwo
            obtain ⟨m, t, hm, rfl, rfl, htwo, hbel⟩ := hrel
            have HT2 := Lib.hid htwo
            have HB2 := Lib.hid hbel
            clear htwo
            by_cases hmk : m < k
            · obtain ⟨a0, a1, a2⟩ := (hc.out.below hb hbel).fx m (by rw [hl.out]; omega)
              obtain ⟨e0, e1, e2⟩ := (hc.out.below hb hbel).fx k (by rw [hl.out]; exact hlt)
              obtain ⟨x, hxk⟩ : ∃ x, x = fs.getD m default := ⟨_, rfl⟩
              obtain ⟨y, hyk⟩ : ∃ y, y = fs.getD k default := ⟨_, rfl⟩
              rw [← hxk] at a0 a1 a2
              rw [← hyk] at e0 e1 e2
              have HX := Lib.hid hxk
              have HY := Lib.hid hyk
              clear hxk hyk hbel
              obtain ⟨x0, x1, x2⟩ := x
              obtain ⟨y0, y1, y2⟩ := y
              simp only at a0 a1 a2 e0 e1 e2
              have s4 : (m : Int) < (k : Int) := by omega
              have s5 : (m : Int) < (n : Int) := by omega
              cases t
              · by_cases g : x0 = y0
                · have G := Lib.hid g
                  have g' : (x0.toList == y0.toList) = true := by rw [g]; simp
                  clear g
                  go_wp2
                  go_quiet (fail)
                  all_goals
                    go_wp2
                    go_roundw
                    case rel => exact ⟨m + 1, true, by omega, by go_num, rfl, HT2.out.hit hmk (by rw [hl.out]; exact hlt) (by rw [← HX.out, ← HY.out]; exact G.out), below_drewN HB2.out _⟩
                    case measure => simp [intOf]; omega
                · have G := Lib.hid g
                  have g' : (x0.toList == y0.toList) = false := by rw [bytes_beq]; simpa using g
                  clear g
                  go_wp2
                  go_quiet (fail)
                  all_goals
                    go_wp2
                    go_roundw
                    case rel => exact ⟨m + 1, false, by omega, by go_num, rfl, HT2.out.miss (by rw [← HX.out, ← HY.out]; exact G.out), below_drewN HB2.out _⟩
                    case measure => simp [intOf]; omega
              · clear a0 a1 a2 e0 e1 e2
                go_wp2
                go_quiet (fail)
                all_goals
                  go_wp2
                  go_roundw
                  case rel => exact ⟨m + 1, true, by omega, by go_num, rfl, HT2.out.stay, below_drewN HB2.out _⟩
                  case measure => simp [intOf]; omega
            · obtain rfl : m = k := by omega
              go_wp2
              go_roundw
              case rel => exact ⟨m + 1, t, by omega, by go_num, rfl, HT2.out.done, fun j hj => by
                rcases Nat.lt_or_ge j m with h | h
                · exact HRt.out j h
                · rw [show j = m by omega, ← HK.out]; exact HR.out.symm, HB2.out⟩
              case measure => simp [intOf]; omega
      · obtain rfl : k = n := by omega
        have E1 := Lib.hid (MISS.out fun j hj => HRt.out j (by rw [hl.out] at hj; exact hj))
        have E2 := Lib.hid (END.out t (by rw [hl.out]; exact HT.out))
        cases t
        · go_wp2
          go_ret
          refine ⟨?_, HB.out⟩
          rw [HRR.out, E1.out, E2.out]
          rfl
        · go_wp2
          go_ret
          refine ⟨?_, HB.out⟩
          rw [HRR.out, E1.out, E2.out]
          rfl
theorem rcheck_any (v : Value) (fs : List Fx) (w : World) (h : FixAt w v fs) (hn : fs.length ≤ 1000000) (hs : Small fs) : Calls Try.prog 20 #[v] w (IRet (checkL rightF fs) w) := by
  obtain ⟨_, p, c, rfl, _, _, hp⟩ := h
  rcases fs with _ | ⟨x, fs⟩
  · exact rcheck_zero p c w
  · obtain ⟨b, off, rfl, hb, hc⟩ := hp (by simp)
    exact rcheck_some b off _ c (x :: fs) w (Lib.hid rfl) hn (Lib.hid hs) hb (Lib.hid hc)
end Go.Proofs.Ytkmgapieoedelaa
