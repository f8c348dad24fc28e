/- The walk of FixOrder. -/
import Derived.Test.YtkmgapieoedelaaFixY
namespace Go.Proofs.FixMath
theorem setL_mem {R : Fx → Bool} {l : List Fx} {f : Fx} : ∀ g ∈ (setL R l f).1, g ∈ l ∨ g = f := by
  intro g hg
  unfold setL at hg
  split at hg
  · simp at hg
  · split at hg
    · simp at hg
    · split at hg
      · simp at hg
      · have := (sortR_perm _).mem_iff.1 hg
        unfold allL at this
        rcases List.mem_cons.1 this with h | h
        · exact .inr h
        · exact .inl (List.mem_filter.1 h).1
theorem setL_len (R : Fx → Bool) (l : List Fx) (f : Fx) : (setL R l f).1.length ≤ l.length + 1 := by
  unfold setL
  split
  · simp
  · split
    · simp
    · split
      · simp
      · rw [sortR_len]; exact allL_le l f
end Go.Proofs.FixMath
namespace Go.Proofs.Ytkmgapieoedelaa
open Go.Shelf Go.RowKit Go.Lib Go.Sort Go.Proofs.FixMath

theorem below_next {W w w' : World} (h : Below W.heap.size W w) (h' : Below w.heap.size w w') : Below W.heap.size W w' := h.trans (h'.mono h.size)
theorem aw_drew (w : World) : Below w.heap.size w w.drew := (Below.refl _ _).drew
abbrev fxO (f : Fx) : Obj := .cells #[.string f.op, .int .i64 f.level, .int .i64 f.side] 24
def Six (w' : World) (a b : Nat) (f g : Fx) : Prop := (w'.cell? ⟨a, 0, none⟩ = some (.string f.op) ∧ w'.cell? ⟨a, 1, none⟩ = some (.int .i64 f.level) ∧ w'.cell? ⟨a, 2, none⟩ = some (.int .i64 f.side)) ∧ (w'.cell? ⟨b, 0, none⟩ = some (.string g.op) ∧ w'.cell? ⟨b, 1, none⟩ = some (.int .i64 g.level) ∧ w'.cell? ⟨b, 2, none⟩ = some (.int .i64 g.side))
theorem six_facts {w w' : World} {f g : Fx} (b : Below ((w.alloc (fxO f)).alloc (fxO g)).heap.size ((w.alloc (fxO f)).alloc (fxO g)) w') : Six w' w.heap.size (w.heap.size + 1) f g := by
  have h1 : FixBlk ((w.alloc (fxO f)).alloc (fxO g)) w.heap.size f := (FixBlk.new w f).below ((Below.refl _ _).alloc (Nat.le_refl _) _) (by simp)
  have h2 : FixBlk ((w.alloc (fxO f)).alloc (fxO g)) (w.heap.size + 1) g := by
    have := FixBlk.new (w.alloc (fxO f)) g
    rwa [show (w.alloc (fxO f)).heap.size = w.heap.size + 1 by simp] at this
  exact ⟨(h1.below b h1.lt).cells, (h2.below b h2.lt).cells⟩
theorem two_below {w w' : World} {f g : Fx} (b : Below ((w.alloc (fxO f)).alloc (fxO g)).heap.size ((w.alloc (fxO f)).alloc (fxO g)) w') : Below w.heap.size w w' :=
  (((Below.refl _ _).alloc (Nat.le_refl _) _).alloc (by simp) _).trans (b.mono (by simp; omega))
set_option maxRecDepth 100000 in
set_option maxHeartbeats 0 in
theorem order_go (p : Option Addr) (n c : Nat) (l : List Fx) (f g : Fx) (w : World) (hl : Hid (l.length = n)) (h : Hid (FixAt w (.slice p n c) l)) : Calls Try.prog 9 #[.slice p n c, fxV f, fxV g] w (RB true w) := by
  have T := Lib.hid (fun w' b => @six_facts w w' f g b)
  have TB := Lib.hid (fun w' b => @two_below w w' f g b)
  have FW := Lib.hid (fun W (b : Below w.heap.size w W) u (hu : StrsAt W u [f.op, g.op]) => few_any _ u l [f.op, g.op] W (h.out.below b) hu)
  cases hf : fewB l [f.op, g.op] with
  | false =>
    rw [hf] at FW
    clear hf
    obtain ⟨f0, f1, f2⟩ := f
    obtain ⟨g0, g1, g2⟩ := g
    unfold fxV
    simp only [fxO] at T TB FW
    go_enter Try.func9, Try.ntmps9
    go_wp2_with fail
    refine (awake_any _).mono ?_
    rintro e w1 ⟨rfl, b1⟩
    obtain ⟨⟨q0, q1, q2⟩, q3, q4, q5⟩ := T.out _ b1
    simp only at q0 q1 q2 q3 q4 q5
    have B1 := Lib.hid b1
    have FL := Lib.hid (FW.out _ ((TB.out _ b1).trans (((Below.refl _ _).alloc (Nat.le_refl _) (.cells #[.string f0, .string g0] 9)).mono (TB.out _ b1).size)) _ (lit_strs w1 [f0, g0] #[.string f0, .string g0] 2 rfl rfl (by omega)))
    clear b1
    go_wp2_with fail
    refine FL.out.mono ?_
    rintro e w2 ⟨rfl, rfl⟩
    clear q0 q1 q2 q3 q4 q5
    go_wp2_with fail
    refine (awake_any _).mono ?_
    rintro e w2 ⟨rfl, b2⟩
    go_wp2
    go_ret
    exact ⟨rfl, TB.out _ (below_next B1.out (below_next ((Below.refl _ _).alloc (Nat.le_refl _) _) b2))⟩
  | true =>
    rw [hf] at FW
    by_cases h100 : n ≤ 100
    · have dd : decide ((100 : Int) < (n : Int)) = false := by simp; omega
      by_cases he : f.op = g.op
      · clear hf h100
        obtain ⟨f0, f1, f2⟩ := f
        obtain ⟨g0, g1, g2⟩ := g
        simp only at he
        subst he
        unfold fxV
        simp only [fxO] at T TB FW
        go_enter Try.func9, Try.ntmps9
        go_wp2_with fail
        refine (awake_any _).mono ?_
        rintro e w1 ⟨rfl, b1⟩
        obtain ⟨⟨q0, q1, q2⟩, q3, q4, q5⟩ := T.out _ b1
        simp only at q0 q1 q2 q3 q4 q5
        have B1 := Lib.hid b1
        have FL := Lib.hid (FW.out _ ((TB.out _ b1).trans (((Below.refl _ _).alloc (Nat.le_refl _) (.cells #[.string f0, .string f0] 9)).mono (TB.out _ b1).size)) _ (lit_strs w1 [f0, f0] #[.string f0, .string f0] 2 rfl rfl (by omega)))
        have Q2 := Lib.hid (T.out _ (below_next b1 ((Below.refl _ _).alloc (Nat.le_refl _) (.cells #[.string f0, .string f0] 9))))
        clear b1
        go_wp2_with fail
        refine FL.out.mono ?_
        rintro e w2 ⟨rfl, rfl⟩
        clear q0 q1 q2 q3 q4 q5
        obtain ⟨⟨q0, q1, q2⟩, q3, q4, q5⟩ := Q2.out
        simp only at q0 q1 q2 q3 q4 q5
        go_wp2_with fail
        refine (awake_any _).mono ?_
        rintro e w2 ⟨rfl, b2⟩
        clear q0 q1 q2 q3 q4 q5
        go_wp2
        go_ret
        exact ⟨rfl, TB.out _ (below_next B1.out (below_next ((Below.refl _ _).alloc (Nat.le_refl _) _) b2))⟩
      · obtain ⟨a1, _, a3, a4⟩ := few_all hf
        have SM : Small l := fun f hf => Nat.le_trans (a3 f hf) (by omega)
        have sf : f.op.size ≤ 100000000 := Nat.le_trans (a4 f.op (by simp)) (by omega)
        have sg : g.op.size ≤ 100000000 := Nat.le_trans (a4 g.op (by simp)) (by omega)
        have TWO := set_two (R := rightF) (f := f) (g := g) (show l.length ≤ 100 by rw [hl.out]; exact h100) he
        have la := setL_len rightF l f
        have lb := setL_len rightF l g
        have lc := setL_len rightF (setL rightF l f).1 g
        have ma : Small (setL rightF l f).1 := fun x hx => by rcases setL_mem x hx with h | h; exact SM x h; rw [h]; exact sf
        have mb : Small (setL rightF l g).1 := fun x hx => by rcases setL_mem x hx with h | h; exact SM x h; rw [h]; exact sg
        have mc : Small (setL rightF (setL rightF l f).1 g).1 := fun x hx => by rcases setL_mem x hx with h | h; exact ma x h; rw [h]; exact sg
        have hn := hl.out
        have ON := Lib.hid (fun W (b : Below w.heap.size w W) => own_any _ l W (h.out.below b) (by omega))
        have SF := Lib.hid (fun v W hv => set_any v l f W hv (by omega) SM sf)
        have SG := Lib.hid (fun v W hv => set_any v l g W hv (by omega) SM sg)
        have SFG := Lib.hid (fun v W hv => set_any v (setL rightF l f).1 g W hv (by omega) ma sg)
        have SGF := Lib.hid (fun v W hv => set_any v (setL rightF l g).1 f W hv (by omega) mb sf)
        have RS := Lib.hid (fun v u W h1 h2 => rsame_any v u (setL rightF (setL rightF l f).1 g).1 (setL rightF (setL rightF l f).1 g).1 W h1 h2 (by omega))
        have CH := Lib.hid (fun v W hv => check_any v (setL rightF (setL rightF l f).1 g).1 W hv (by omega) mc)
        simp only [decide_true] at RS
        simp only at TWO
        clear ma mb mc la lb lc hn SM sf sg a1 a3 a4 hf
        generalize setL rightF (setL rightF l f).1 g = A2 at *
        generalize setL rightF (setL rightF l g).1 f = D2 at *
        generalize setL rightF l f = A1 at *
        generalize setL rightF l g = D1 at *
        obtain ⟨x1, e1⟩ := A1
        obtain ⟨x2, e2⟩ := A2
        obtain ⟨y1, i1⟩ := D1
        obtain ⟨y2, i2⟩ := D2
        have TW := Lib.hid TWO
        clear TWO
        obtain ⟨f0, f1, f2⟩ := f
        obtain ⟨g0, g1, g2⟩ := g
        simp only at he
        have hfg : decide (f0 = g0) = false := by simpa using he
        have hfg' : (f0.toList == g0.toList) = false := by rw [bytes_beq]; simpa using he
        unfold fxV at *
        simp only [fxO] at T TB FW
        clear h100
        go_enter Try.func9, Try.ntmps9
        go_wp2_with fail
        refine (awake_any _).mono ?_
        rintro e w1 ⟨rfl, b1⟩
        obtain ⟨⟨q0, q1, q2⟩, q3, q4, q5⟩ := T.out _ b1
        simp only at q0 q1 q2 q3 q4 q5
        have B1 := Lib.hid b1
        have FL := Lib.hid (FW.out _ ((TB.out _ b1).trans (((Below.refl _ _).alloc (Nat.le_refl _) (.cells #[.string f0, .string g0] 9)).mono (TB.out _ b1).size)) _ (lit_strs w1 [f0, g0] #[.string f0, .string g0] 2 rfl rfl (by omega)))
        have Q2 := Lib.hid (T.out _ (below_next b1 ((Below.refl _ _).alloc (Nat.le_refl _) (.cells #[.string f0, .string g0] 9))))
        clear b1
        go_wp2_with fail
        refine FL.out.mono ?_
        rintro e w2 ⟨rfl, rfl⟩
        clear q0 q1 q2 q3 q4 q5
        obtain ⟨⟨q0, q1, q2⟩, q3, q4, q5⟩ := Q2.out
        simp only at q0 q1 q2 q3 q4 q5
        have B2 : Hid (Below ((w.alloc (.cells #[.string f0, .int .i64 f1, .int .i64 f2] 24)).alloc (.cells #[.string g0, .int .i64 g1, .int .i64 g2] 24)).heap.size ((w.alloc (.cells #[.string f0, .int .i64 f1, .int .i64 f2] 24)).alloc (.cells #[.string g0, .int .i64 g1, .int .i64 g2] 24)) (w1.alloc (.cells #[.string f0, .string g0] 9))) := Lib.hid (below_next B1.out ((Below.refl _ _).alloc (Nat.le_refl _) _))
        clear FL Q2
        go_wp2_with fail
        generalize w1.alloc (.cells #[.string f0, .string g0] 9) = w2 at *
        have S : Hid (∀ w', Below w2.heap.size w2 w' → Below w2.heap.size w2 w' ∧ w'.cell? ⟨w.heap.size, 0, none⟩ = some (.string f0) ∧ w'.cell? ⟨w.heap.size, 1, none⟩ = some (.int .i64 f1) ∧ w'.cell? ⟨w.heap.size, 2, none⟩ = some (.int .i64 f2) ∧ w'.cell? ⟨w.heap.size + 1, 0, none⟩ = some (.string g0) ∧ w'.cell? ⟨w.heap.size + 1, 1, none⟩ = some (.int .i64 g1) ∧ w'.cell? ⟨w.heap.size + 1, 2, none⟩ = some (.int .i64 g2)) := Lib.hid fun w' b => by
          obtain ⟨⟨c0, c1, c2⟩, c3, c4, c5⟩ := T.out w' (below_next B2.out b)
          exact ⟨b, c0, c1, c2, c3, c4, c5⟩
        have ON2 := Lib.hid (fun W (b : Below w2.heap.size w2 W) => ON.out W (TB.out _ (below_next B2.out b)))
        clear q0 q1 q2 q3 q4 q5
        go_region_held3 (fun w' => Below w2.heap.size w2 w' ∧ w'.cell? ⟨w.heap.size, 0, none⟩ = some (.string f0) ∧ w'.cell? ⟨w.heap.size, 1, none⟩ = some (.int .i64 f1) ∧ w'.cell? ⟨w.heap.size, 2, none⟩ = some (.int .i64 f2) ∧ w'.cell? ⟨w.heap.size + 1, 0, none⟩ = some (.string g0) ∧ w'.cell? ⟨w.heap.size + 1, 1, none⟩ = some (.int .i64 g1) ∧ w'.cell? ⟨w.heap.size + 1, 2, none⟩ = some (.int .i64 g2)) (first | exact S.out _ (aw_drew _) | exact S.out _ (by assumption)) ((first
          | (go_at_call 13; refine (ON2.out _ (by first | exact And.left (by assumption) | assumption | exact aw_drew _)).mono ?_; rintro e wz ⟨v3, rfl, h3, bz⟩; have bz' := below_next (W := w2) (by first | exact And.left (by assumption) | assumption | exact aw_drew _) bz)
          | (go_at_call 12; refine (SF.out _ _ (by first | assumption | exact FixAt.below (by assumption) (by assumption))).mono ?_; rintro e wy ⟨v4, rfl, h4, bu⟩; have bu' := below_next (W := w2) (by first | exact And.left (by assumption) | assumption | exact aw_drew _) bu)))
        have H4 := Lib.hid h4
        have B4 := Lib.hid bu'
        obtain ⟨_, c0, c1, c2, c3, c4, c5⟩ := S.out _ bu'
        clear h3 bz bz' bu bu' h4
        go_wp2_with fail
        refine (SFG.out _ _ H4.out).mono ?_
        rintro e w5 ⟨v5, rfl, h5, b5⟩
        have B5 := Lib.hid (below_next B4.out b5)
        have H5 := Lib.hid h5
        clear h5 b5 c0 c1 c2 c3 c4 c5
        have S5 : Hid (∀ w', Below w5.heap.size w5 w' → Below w5.heap.size w5 w' ∧ w'.cell? ⟨w.heap.size, 0, none⟩ = some (.string f0) ∧ w'.cell? ⟨w.heap.size, 1, none⟩ = some (.int .i64 f1) ∧ w'.cell? ⟨w.heap.size, 2, none⟩ = some (.int .i64 f2) ∧ w'.cell? ⟨w.heap.size + 1, 0, none⟩ = some (.string g0) ∧ w'.cell? ⟨w.heap.size + 1, 1, none⟩ = some (.int .i64 g1) ∧ w'.cell? ⟨w.heap.size + 1, 2, none⟩ = some (.int .i64 g2)) := Lib.hid fun w' b => ⟨b, (S.out w' (below_next B5.out b)).2⟩
        have ON5 := Lib.hid (fun W (b : Below w5.heap.size w5 W) => ON2.out W (below_next B5.out b))
        go_wp2_with fail
        go_region_held3 (fun w' => Below w5.heap.size w5 w' ∧ w'.cell? ⟨w.heap.size, 0, none⟩ = some (.string f0) ∧ w'.cell? ⟨w.heap.size, 1, none⟩ = some (.int .i64 f1) ∧ w'.cell? ⟨w.heap.size, 2, none⟩ = some (.int .i64 f2) ∧ w'.cell? ⟨w.heap.size + 1, 0, none⟩ = some (.string g0) ∧ w'.cell? ⟨w.heap.size + 1, 1, none⟩ = some (.int .i64 g1) ∧ w'.cell? ⟨w.heap.size + 1, 2, none⟩ = some (.int .i64 g2)) (first | exact S5.out _ (aw_drew _) | exact S5.out _ (by assumption)) ((first
          | (go_at_call 13; refine (ON5.out _ (by first | exact And.left (by assumption) | assumption | exact aw_drew _)).mono ?_; rintro e wz ⟨v6, rfl, h6, bz⟩; have bz' := below_next (W := w5) (by first | exact And.left (by assumption) | assumption | exact aw_drew _) bz)
          | (go_at_call 12; refine (SG.out _ _ (by first | assumption | exact FixAt.below (by assumption) (by assumption))).mono ?_; rintro e w7 ⟨v7, rfl, h7, bu⟩; have bu' := below_next (W := w5) (by first | exact And.left (by assumption) | assumption | exact aw_drew _) bu)))
        have H7 := Lib.hid h7
        have B7 := Lib.hid (below_next B5.out bu')
        have G7 := Lib.hid (H5.out.below bu')
        obtain ⟨_, c0, c1, c2, c3, c4, c5⟩ := S5.out _ bu'
        clear h6 bz bz' bu bu' h7
        go_wp2_with fail
        refine (SGF.out _ _ H7.out).mono ?_
        rintro e w8 ⟨v8, rfl, h8, b8⟩
        have B8 := Lib.hid (below_next B7.out b8)
        have G8 := Lib.hid (G7.out.below b8)
        have H8 := Lib.hid h8
        clear h8 b8 c0 c1 c2 c3 c4 c5
        rcases TW.out with ⟨z1, z2, z3, z4, z5, z6⟩ | ⟨z1, z2⟩
        · subst z1 z2 z3 z4 z5
          rw [z6] at CH
          have R8 := Lib.hid (RS.out _ _ _ G8.out H8.out)
          go_wp2_with fail
          refine R8.out.mono ?_
          rintro e w9 ⟨rfl, b9⟩
          have B9 := Lib.hid (below_next B8.out b9)
          have C9 := Lib.hid (CH.out _ _ (G8.out.below b9))
          clear b9
          go_wp2_with fail
          refine C9.out.mono ?_
          rintro e w10 ⟨rfl, b10⟩
          go_wp2
          go_ret
          exact ⟨rfl, TB.out _ (below_next B2.out (below_next B9.out b10))⟩
        · by_cases k1 : e1 = 0 <;> by_cases k3 : i1 = 0
          all_goals
            (first | (have k2 : ¬ e2 = 0 := fun h => z1 ⟨k1, h⟩) | skip)
            (first | (have k4 : ¬ i2 = 0 := fun h => z2 ⟨k3, h⟩) | skip)
            clear z1 z2
            (first | (have n1 : (e1 == 0) = true := by simpa using k1) | (have n1 : (e1 == 0) = false := by simpa using k1))
            (first | (have n1' : (e1 != 0) = true := by simpa using k1) | (have n1' : (e1 != 0) = false := by simpa using k1))
            (first | (have n3 : (i1 == 0) = true := by simpa using k3) | (have n3 : (i1 == 0) = false := by simpa using k3))
            (first | (have n3' : (i1 != 0) = true := by simpa using k3) | (have n3' : (i1 != 0) = false := by simpa using k3))
            (first | (have n2 : (e2 == 0) = false := by simpa using k2) | skip)
            (first | (have n2' : (e2 != 0) = true := by simpa using k2) | skip)
            (first | (have n4 : (i2 == 0) = false := by simpa using k4) | skip)
            (first | (have n4' : (i2 != 0) = true := by simpa using k4) | skip)
            (try clear k2)
            (try clear k4)
            clear k1 k3
            go_wp2
            go_ret
            exact ⟨rfl, TB.out _ (below_next B2.out B8.out)⟩
    · have dd : decide ((100 : Int) < (n : Int)) = true := by simp; omega
      clear hf h100
      obtain ⟨f0, f1, f2⟩ := f
      obtain ⟨g0, g1, g2⟩ := g
      unfold fxV
      simp only [fxO] at T TB FW
      go_enter Try.func9, Try.ntmps9
      go_wp2_with fail
      refine (awake_any _).mono ?_
      rintro e w1 ⟨rfl, b1⟩
      obtain ⟨⟨q0, q1, q2⟩, q3, q4, q5⟩ := T.out _ b1
      simp only at q0 q1 q2 q3 q4 q5
      have B1 := Lib.hid b1
      have FL := Lib.hid (FW.out _ ((TB.out _ b1).trans (((Below.refl _ _).alloc (Nat.le_refl _) (.cells #[.string f0, .string g0] 9)).mono (TB.out _ b1).size)) _ (lit_strs w1 [f0, g0] #[.string f0, .string g0] 2 rfl rfl (by omega)))
      clear b1
      go_wp2_with fail
      refine FL.out.mono ?_
      rintro e w2 ⟨rfl, rfl⟩
      clear q0 q1 q2 q3 q4 q5
      go_wp2_with fail
      refine (awake_any _).mono ?_
      rintro e w2 ⟨rfl, b2⟩
      go_wp2
      go_ret
      exact ⟨rfl, TB.out _ (below_next B1.out (below_next ((Below.refl _ _).alloc (Nat.le_refl _) _) b2))⟩
theorem order_walk (v : Value) (l : List Fx) (f g : Fx) (w : World) (h : FixAt w v l) : Calls Try.prog 9 #[v, fxV f, fxV g] w (RB true w) := by
  obtain ⟨p, c, rfl⟩ := fix_form h
  exact order_go p _ c l f g w (Lib.hid rfl) (Lib.hid h)
end Go.Proofs.Ytkmgapieoedelaa
