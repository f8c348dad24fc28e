/- Texts of this seat, one behind the other: LxFixJ, ParC. -/
import Derived.Test.YtggjckalmlploaaGreatDoorKn23
import Derived.Test.YtggjckalmlploaaGreatDoorKn08
/- The contract of Climb. -/
set_option maxRecDepth 100000
namespace Go.Proofs.FixMath
/-- The operators' fixities. -/
def fixesL (l : List Fx) : List ByteArray → Option (List Fx)
  | [] => some []
  | s :: ss => match find l s, fixesL l ss with
    | some f, some fs => some (f :: fs)
    | _, _ => none
theorem fixes_some {l : List Fx} : ∀ {ss : List ByteArray} {gs : List Fx}, gs.length = ss.length → (∀ j, j < ss.length → find l (ss.getD j default) = some (gs.getD j default)) → fixesL l ss = some gs := by
  intro ss
  induction ss with
  | nil => intro gs h _; rw [List.eq_nil_of_length_eq_zero (show gs.length = 0 from h)]; rfl
  | cons s ss ih =>
    intro gs h hj
    rcases gs with _ | ⟨g, gs⟩
    · simp at h
    · have h0 := hj 0 (by simp)
      simp only [List.getD_cons_zero] at h0
      have := ih (gs := gs) (by simpa using h) fun j hjl => by simpa using hj (j + 1) (by simpa using hjl)
      unfold fixesL
      rw [h0, this]
theorem fixes_none {l : List Fx} : ∀ {ss : List ByteArray} (k : Nat), k < ss.length → find l (ss.getD k default) = none → fixesL l ss = none := by
  intro ss
  induction ss with
  | nil => intro k h; simp at h
  | cons s ss ih =>
    intro k hk h
    unfold fixesL
    cases k with
    | zero => simp at h; rw [h]
    | succ k =>
      rw [ih k (by simpa using hk) (by simpa using h)]
      cases find l s <;> rfl
theorem fixes_mem {l : List Fx} : ∀ {ss : List ByteArray} {gs : List Fx}, fixesL l ss = some gs → gs.length = ss.length ∧ ∀ f ∈ gs, f ∈ l := by
  intro ss
  induction ss with
  | nil => intro gs h; simp [fixesL] at h; subst h; simp
  | cons s ss ih =>
    intro gs h
    unfold fixesL at h
    cases h1 : find l s with
    | none => rw [h1] at h; simp at h
    | some f =>
      cases h2 : fixesL l ss with
      | none => rw [h1, h2] at h; simp at h
      | some fs =>
        rw [h1, h2] at h
        simp at h
        subst h
        obtain ⟨a, b⟩ := ih h2
        refine ⟨by simp [a], fun g hg => ?_⟩
        rcases List.mem_cons.1 hg with rfl | hg
        · exact (find_mem h1).1
        · exact b g hg
def boundL (o : Option (List Int)) : List Int × Int := match o with | none => ([], 43) | some c => (c, 0)
def rowedL (o : Option (List Fx)) : List Int × Int := match o with | none => ([], 42) | some fs => boundL (bindL fs 0)
/-- How operators in a row bind, or what is wrong. -/
def climbL (R : Fx → Bool) (l : List Fx) (ss : List ByteArray) : List Int × Int :=
  if ¬ checkL R l = 0 then ([], checkL R l) else if 400 < ss.length then ([], 40) else rowedL (fixesL l ss)
end Go.Proofs.FixMath
namespace Go.Proofs.YtggjckalmlploaaGreatDoor.Lx
open Go.Shelf Go.RowKit Go.Lib Go.Sort Go.Proofs.FixMath

/-- A function that returns a list of numbers, and an error. -/
def LRet (r : List Int × Int) (W : World) (e : Ending) (w' : World) : Prop := ∃ v, e = .returned (.tuple #[v, .int .i64 r.2]) ∧ IntsAt w' v r.1 ∧ Below W.heap.size W w'
theorem LRet.nil {x : Int} {W w' : World} (h : Below W.heap.size W w') : LRet ([], x) W (.returned (.tuple #[.slice none 0 0, .int .i64 x])) w' := ⟨_, rfl, IntsAt.nil _, h⟩
theorem FRow.put {base : Nat} {w : World} {p : Option Addr} {n k : Nat} {fs : List Fx} {f : Fx} (hn : fs.length = n) (h : w.ownsRow base 41 3 (.slice p (n + 1) k) (n + 1) (fxCells fs ++ f.cells)) : FRow base w (.slice p (n + 1) k) (fs ++ [f]) := by
  subst hn
  unfold FRow
  rw [fxCells_append]
  simpa [fxCells] using h
theorem fcells_new (w : World) (f : Fx) : ∀ j u, f.cells[j]? = some u → (w.alloc (.cells #[.string f.op, .int .i64 f.level, .int .i64 f.side] 41)).cell? ((⟨w.heap.size, 0, none⟩ : Addr).add j) = some u := by
  intro j u hj
  obtain ⟨a, b, c⟩ := (FixBlk.new w f).cells
  match j, hj with
  | 0, hj => simp [Fx.cells] at hj; subst hj; rw [Go.WideShapes.add_plain]; exact a
  | 1, hj => simp [Fx.cells] at hj; subst hj; rw [Go.WideShapes.add_plain]; exact b
  | 2, hj => simp [Fx.cells] at hj; subst hj; rw [Go.WideShapes.add_plain]; exact c
  | j + 3, hj => simp [Fx.cells] at hj
theorem fcells_two (w : World) (A : Array Value) (t : TypeId) (f : Fx) : ∀ j u, f.cells[j]? = some u → ((w.alloc (.cells A t)).alloc (.cells #[.string f.op, .int .i64 f.level, .int .i64 f.side] 41)).cell? ((⟨w.heap.size + 1, 0, none⟩ : Addr).add j) = some u := by
  have := fcells_new (w.alloc (.cells A t)) f
  rw [show (w.alloc (.cells A t)).heap.size = w.heap.size + 1 by simp] at this
  exact this
theorem fcells_one (f : Fx) : ∀ u ∈ f.cells, u.oneCell' = true := by simp [Fx.cells, Value.oneCell']
set_option maxRecDepth 100000 in
set_option maxHeartbeats 4000000 in
theorem climbs_go (p q : Option Addr) (n m c d : Nat) (l : List Fx) (ss : List ByteArray) (w : World) (hl : Hid (l.length = n)) (hm : Hid (ss.length = m)) (hn : n ≤ 1000000) (hm1 : m ≤ 1000000) (hs : Hid (Small l)) (h1 : Hid (FixAt w (.slice p n c) l)) (h2 : Hid (StrsAt w (.slice q m d) ss)) :
    Calls Tryz.prog 99 #[.slice p n c, .slice q m d] w (LRet (climbL rightF l ss) w) := by
  have C := check_any _ l w h1.out (by rw [hl.out]; exact hn) hs.out
  unfold climbL
  by_cases hc : checkL rightF l = 0
  · rw [if_neg (by simp [hc])]
    rw [hc] at C
    have CC := Lib.hid C
    have OK := Lib.hid (check_ok hc)
    clear C hc
    by_cases h4 : 400 < m
    · rw [if_pos (by rw [hm.out]; exact h4)]
      have g : decide ((400 : Int) < (m : Int)) = true := by simp; omega
      go_enter Tryz.func99, Tryz.ntmps99
      go_wp2_with fail
      refine CC.out.mono ?_
      rintro e w1 ⟨rfl, b1⟩
      have B1 := Lib.hid b1
      clear b1
      go_wp2
      go_ret2
      exact LRet.nil B1.out
    · rw [if_neg (by rw [hm.out]; exact h4)]
      have g : decide ((400 : Int) < (m : Int)) = false := by simp; omega
      have FN := Lib.hid (fun k a b => @fixes_none l ss k a b)
      have FS := Lib.hid (fun gs a b => @fixes_some l ss gs a b)
      obtain ⟨R, hR⟩ : ∃ R, R = fixesL l ss := ⟨_, rfl⟩
      rw [← hR] at FN FS ⊢
      have HR := Lib.hid hR
      clear hR
      obtain ⟨i0, hi, hz0, hz1, hz2⟩ := infoFix
      have HI := Lib.hid (And.intro hi (And.intro hz0 (And.intro hz1 hz2)))
      clear hi hz0 hz1 hz2
      go_enter Tryz.func99, Tryz.ntmps99
      go_wp2_with fail
      refine CC.out.mono ?_
      rintro e w1 ⟨rfl, b1⟩
      have B1 := Lib.hid b1
      clear b1
      go_wp2
      go_loopw [7, 24] (fun s7 s24 wr => ∃ (k : Nat) (pp : Option Addr) (kk : Nat) (gs : List Fx), k ≤ m ∧ s24 = .int .i64 k ∧ s7 = .slice pp k kk ∧ gs.length = k ∧ FRow w.heap.size wr (.slice pp k kk) gs ∧ Below w.heap.size w wr ∧ ∀ j, j < k → find l (ss.getD j default) = some (gs.getD j default)) (fun _ s24 _ => m - (intOf s24).toNat)
      case atStart => exact ⟨0, none, 0, [], Nat.zero_le _, rfl, rfl, rfl, FRow.nil _ _, B1.out, fun j hj => by omega⟩
      case round =>
        obtain ⟨wo, hwo⟩ : ∃ wo : World, wo = wr := ⟨_, rfl⟩
        subst hwo
        obtain ⟨k, pp, kk, gs, hk, rfl, rfl, hgl, hrow, hbel, hpre⟩ := hrel
        have HG := Lib.hid hgl
        have HP := Lib.hid hpre
        have HRow := Lib.hid hrow
        have HB := Lib.hid hbel
        clear hgl hpre hrow
        by_cases hlt : k < m
        · obtain ⟨b, off, rfl, hb, hcc⟩ := strs_at h2.out (by omega)
          have a1 := (hcc.below hb hbel).str k (by rw [hm.out]; exact hlt)
          obtain ⟨s, hsk⟩ : ∃ s, s = ss.getD k default := ⟨_, rfl⟩
          rw [← hsk] at a1
          have HS := Lib.hid hsk
          have F := find_fix (.slice p n c) l s wo (h1.out.below hbel) (by rw [hl.out]; exact hn)
          clear hsk hcc hbel
          have s3 : (k : Int) < (m : Int) := by omega
          cases hf : find l s with
          | none =>
            rw [hf] at F
            have FF := Lib.hid F
            have E := Lib.hid (FN.out k (by rw [hm.out]; exact hlt) (by rw [← HS.out]; exact hf))
            clear F hf
            go_wp2_with fail
            refine FF.out.mono ?_
            rintro e w2 ⟨rfl, b2⟩
            have B2 := Lib.hid (HB.out.trans (b2.mono HB.out.size))
            clear b2
            simp only [fxV, zf, Option.getD_none, Option.isSome_none]
            go_wp2
            go_ret2
            rw [E.out]
            exact LRet.nil (B2.out.alloc B2.out.size _)
          | some f =>
            rw [hf] at F
            have FF := Lib.hid F
            have HF := Lib.hid hf
            clear F hf
            obtain ⟨f0, f1, f2⟩ := f
            go_wp2_with fail
            refine FF.out.mono ?_
            rintro e w2 ⟨rfl, b2⟩
            have B2 := Lib.hid (HB.out.trans (b2.mono HB.out.size))
            have R2 := Lib.hid (HRow.out.after b2)
            clear b2
            simp only [fxV, Option.getD_some, Option.isSome_some]
            have BA : Hid (Below w2.heap.size w2 ((w2.alloc (.cells #[.string f0, .int .i64 f1, .int .i64 f2] 41)).alloc (.cells #[.string f0, .int .i64 f1, .int .i64 f2] 41))) := Lib.hid (((Below.refl _ _).alloc (Nat.le_refl _) _).alloc (by simp) _)
            have own := R2.out.after BA.out
            unfold FRow at own
            rw [HG.out] at own
            have OWN := Lib.hid own
            have hmax : k + 1 ≤ maxLen := by unfold maxLen; omega
            have hbyt : (k + 1) * 32 ≤ 140737488355328 := by omega
            have HM := Lib.hid (And.intro hmax hbyt)
            clear own hmax hbyt
            go_wp2_with (at_builtin; refine wpList_append_any _ rfl _ _ 22 rfl w.heap.size 41 i0 zeroFix 3 32 Tryz.underlying22 HI.out.1 HI.out.2.1 HI.out.2.2.1 HI.out.2.2.2 rfl (by decide) (.slice pp k kk) k (fxCells gs) rfl OWN.out (some ⟨w2.heap.size + 1, 0, none⟩) 1 1 (Fx.cells ⟨f0, f1, f2⟩) rfl rfl (fun _ => ⟨_, rfl, fcells_two _ _ _ ⟨f0, f1, f2⟩⟩) (fcells_one _) HM.out.1 HM.out.2 (Nat.le_trans B2.out.size BA.out.size) ?_; intro p' cap' w3 hown hgrow hblk; have HO := Lib.hid hown; have HGr := Lib.hid hgrow; have HBl := Lib.hid hblk; clear hown hgrow hblk)
            go_roundw
            case rel =>
              refine ⟨k + 1, p', cap', gs ++ [⟨f0, f1, f2⟩], by omega, by go_num, rfl, by simp [HG.out], FRow.put HG.out HO.out, ?_, fun j hj => ?_⟩
              · refine (B2.out.trans (BA.out.mono B2.out.size)).grown HGr.out (Nat.le_trans B2.out.size BA.out.size) fun g hg => ?_
                exact (World.ownsRow.there OWN.out hg).1
              · rcases Nat.lt_or_ge j k with h | h
                · rw [HP.out j h, List.getD_eq_getElem?_getD, List.getD_eq_getElem?_getD, List.getElem?_append_left (by rw [HG.out]; exact h)]
                · rw [show j = k by omega, ← HS.out, HF.out, List.getD_eq_getElem?_getD, List.getElem?_append_right (by rw [HG.out]; exact Nat.le_refl _), HG.out]
                  simp
            case measure => simp [intOf]; omega
        · obtain rfl : k = m := by omega
          have E := Lib.hid (FS.out gs (by rw [HG.out, hm.out]) (fun j hj => HP.out j (by rw [hm.out] at hj; exact hj)))
          have MEM := Lib.hid (fixes_mem (HR.out.symm.trans E.out))
          have CL := climb_any gs.length gs 0 (Nat.le_refl _) (by omega) (by rw [HG.out]; omega) (fun f hf => fine_of (OK.out.2.1 f (MEM.out.2 f hf))) none 0 0 (.slice pp k kk) [] wo w.heap.size rfl (by rw [HG.out]; simp; omega) (IRow.nil _ _) hbel.size ⟨HRow.out.at, fun hne => by
            obtain ⟨_, p9, c9, hv, _, _, hh⟩ := HRow.out.at
            obtain ⟨b9, o9, rfl, hb9, _⟩ := hh (by intro e; exact hne (List.eq_nil_of_length_eq_zero e))
            simp only [Value.slice.injEq] at hv
            rw [hv.1]
            exact ⟨b9, rfl, hb9, by simp [Value.ownBlock]⟩⟩
          have CLH := Lib.hid CL
          have ER : Hid (rowedL R = boundL (bindL gs 0)) := Lib.hid (by rw [E.out]; rfl)
          clear CL hbel
          cases hq : bindL gs 0 with
          | none =>
            rw [hq] at CLH ER
            clear hq
            go_wp2_with fail
            refine CLH.out.mono ?_
            rintro e w3 ⟨g3, he⟩
            obtain rfl := he
            have G3 := Lib.hid g3
            clear g3
            go_wp2
            go_ret2
            rw [ER.out]
            refine LRet.nil (HB.out.grown G3.out HB.out.size fun k hk => by cases hk)
          | some cc =>
            rw [hq] at CLH ER
            clear hq
            go_wp2_with fail
            refine CLH.out.mono ?_
            rintro e w3 ⟨g3, p3, k3, rfl, r3, -⟩
            have G3 := Lib.hid g3
            have R3 := Lib.hid r3
            clear g3 r3
            simp only [List.length_nil, Nat.zero_add, List.nil_append] at R3 ⊢
            generalize cc.length = nn at R3 ⊢
            go_wp2
            go_ret2
            rw [ER.out]
            exact ⟨.slice p3 nn k3, rfl, IRow.at R3.out, HB.out.grown G3.out HB.out.size fun k hk => by cases hk⟩
  · rw [if_pos hc]
    obtain ⟨x, hx⟩ : ∃ x, x = checkL rightF l := ⟨_, rfl⟩
    rw [← hx] at C hc ⊢
    have CC := Lib.hid C
    have g : (x == 0) = false := by simpa using hc
    have g' : (x != 0) = true := by simpa using hc
    clear C hx hc
    go_enter Tryz.func99, Tryz.ntmps99
    go_wp2_with fail
    refine CC.out.mono ?_
    rintro e w1 ⟨rfl, b1⟩
    have B1 := Lib.hid b1
    clear b1
    go_wp2
    go_ret2
    exact LRet.nil B1.out
theorem climbs_any (v u : Value) (l : List Fx) (ss : List ByteArray) (w : World) (h1 : FixAt w v l) (h2 : StrsAt w u ss) (hn : l.length ≤ 1000000) (hm : ss.length ≤ 1000000) (hs : Small l) : Calls Tryz.prog 99 #[v, u] w (LRet (climbL rightF l ss) w) := by
  obtain ⟨p, c, rfl⟩ := fix_form h1
  obtain ⟨q, d, rfl⟩ := strs_form h2
  exact climbs_go p q _ _ c d l ss w (Lib.hid rfl) (Lib.hid rfl) hn hm (Lib.hid hs) (Lib.hid h1) (Lib.hid h2)
end Go.Proofs.YtggjckalmlploaaGreatDoor.Lx
/- How operators bind is their row in another order. -/
namespace Go.Proofs.ParMath
open Go.Proofs.LexMath Go.Proofs.FixMath Go.Proofs.YtggjckalmlploaaGreatDoor
theorem flatN_perm (n : Nat) : ∀ {l a r : List Int}, flatN n l = some (a, r) → l.Perm (a ++ r) := by
  induction n with
  | zero => intro l a r h; simp [flatN] at h
  | succ n ih =>
    intro l a r h
    rcases l with _ | ⟨x, l⟩
    · simp [flatN] at h
    · unfold flatN at h
      split at h
      · simp at h; obtain ⟨rfl, rfl⟩ := h; exact List.Perm.refl _
      · cases hq : flatN n l with
        | none => rw [hq] at h; simp at h
        | some y =>
          obtain ⟨a1, r1⟩ := y
          rw [hq] at h
          simp only at h
          cases hq2 : flatN n r1 with
          | none => rw [hq2] at h; simp at h
          | some z =>
            obtain ⟨b, r2⟩ := z
            rw [hq2] at h
            simp at h
            obtain ⟨rfl, rfl⟩ := h
            have h1 := ih hq
            have h2 := ih hq2
            refine (List.Perm.cons x (h1.trans (h2.append_left a1))).trans ?_
            rw [List.append_assoc, List.cons_append]
            exact (List.perm_middle (a := x) (l₁ := a1) (l₂ := b ++ r2)).symm
theorem rowK_L (n : Nat) : ∀ fr, rowK fr n = rowL fr n := by
  induction n with
  | zero => intro fr; rfl
  | succ n ih => intro fr; show _ :: _ :: rowK _ n = _ :: _ :: rowL _ n; rw [ih]
theorem bind_perm {p : List Fx} {c : List Int} (h : bindL p 0 = some c) : c.Perm (rowK 0 p.length) := by
  have := flat_bind [] (Int.le_refl 0) h
  rw [List.append_nil] at this
  have h2 := flatN_perm _ this
  rw [List.append_nil, ← rowK_L] at h2
  exact h2
theorem climb_cases (R : Fx → Bool) (gs : List Fx) (ss : List ByteArray) : (climbL R gs ss).1 = [] ∨ ∃ hs c, fixesL gs ss = some hs ∧ bindL hs 0 = some c ∧ climbL R gs ss = (c, 0) := by
  unfold climbL
  split
  · exact .inl rfl
  · split
    · exact .inl rfl
    · unfold rowedL
      cases hf : fixesL gs ss with
      | none => exact .inl rfl
      | some hs =>
        simp only
        cases hb : bindL hs 0 with
        | none => exact .inl rfl
        | some c => exact .inr ⟨hs, c, rfl, hb, rfl⟩
theorem rowed_climb (fin : Int) (fs : List Fx) (R : Fx → Bool) : Rowed ⟨fin, fs, climbL R⟩ := fun gs ss => by
  rcases climb_cases R gs ss with h | ⟨hs, c, h1, h2, h3⟩
  · exact .inl h
  · right
    show (climbL R gs ss).1.Perm _ ∧ (climbL R gs ss).2 = 0
    rw [h3]
    have := bind_perm h2
    rw [(fixes_mem h1).1] at this
    exact ⟨this, rfl⟩
end Go.Proofs.ParMath
