/- The walk of FixSets. -/
import Derived.Test.YtkmgapieoedelaaOrderWalk
import Derived.Test.YtkmgapieoedelaaRefSet
namespace Go.Proofs.Ytkmgapieoedelaa
open Go.Shelf Go.RowKit Go.Lib Go.Sort Go.Proofs.FixMath

theorem one_facts {w w' : World} {f : Fx} (b : Below (w.alloc (fxO f)).heap.size (w.alloc (fxO f)) w') : w'.cell? ⟨w.heap.size, 0, none⟩ = some (.string f.op) ∧ w'.cell? ⟨w.heap.size, 1, none⟩ = some (.int .i64 f.level) ∧ w'.cell? ⟨w.heap.size, 2, none⟩ = some (.int .i64 f.side) := by
  have h1 := FixBlk.new w f
  exact (h1.below b h1.lt).cells
theorem one_below {w w' : World} {f : Fx} (b : Below (w.alloc (fxO f)).heap.size (w.alloc (fxO f)) w') : Below w.heap.size w w' :=
  ((Below.refl _ _).alloc (Nat.le_refl _) _).trans (b.mono (by simp))
set_option maxRecDepth 100000 in
set_option maxHeartbeats 0 in
theorem sets_go (p : Option Addr) (n c : Nat) (l : List Fx) (f : Fx) (s : ByteArray) (w : World) (hl : Hid (l.length = n)) (h : Hid (FixAt w (.slice p n c) l)) : Calls Try.prog 3 #[.slice p n c, fxV f, .string s] w (RB true w) := by
  have T := Lib.hid (fun w' b => @one_facts w w' f b)
  have TB := Lib.hid (fun w' b => @one_below w w' f b)
  have FW := Lib.hid (fun W (b : Below w.heap.size w W) u (hu : StrsAt W u [f.op, s]) => few_any _ u l [f.op, s] W (h.out.below b) hu)
  cases hf : fewB l [f.op, s] with
  | false =>
    rw [hf] at FW
    clear hf
    obtain ⟨f0, f1, f2⟩ := f
    unfold fxV
    simp only [fxO] at T TB FW
    go_enter Try.func3, Try.ntmps3
    go_wp2_with fail
    refine (awake_any _).mono ?_
    rintro e w1 ⟨rfl, b1⟩
    obtain ⟨q0, q1, q2⟩ := T.out _ b1
    try simp only at q0 q1 q2
    have B1 := Lib.hid b1
    have FL := Lib.hid (FW.out _ ((TB.out _ b1).trans (((Below.refl _ _).alloc (Nat.le_refl _) (.cells #[.string f0, .string s] 9)).mono (TB.out _ b1).size)) _ (lit_strs w1 [f0, s] #[.string f0, .string s] 2 rfl rfl (by omega)))
    clear b1
    go_wp2_with fail
    refine FL.out.mono ?_
    rintro e w2 ⟨rfl, rfl⟩
    clear q0 q1 q2
    go_wp2_with fail
    refine (awake_any _).mono ?_
    rintro e w2 ⟨rfl, b2⟩
    go_wp2
    go_ret
    exact ⟨rfl, TB.out _ (below_next B1.out (below_next ((Below.refl _ _).alloc (Nat.le_refl _) _) b2))⟩
  | true =>
    rw [hf] at FW
    obtain ⟨a1, _, a3, a4⟩ := few_all hf
    have SM : Small l := fun f hf => Nat.le_trans (a3 f hf) (by omega)
    have sf : f.op.size ≤ 100000000 := Nat.le_trans (a4 f.op (by simp)) (by omega)
    have la := setL_len rightF l f
    have hn := hl.out
    have ON := Lib.hid (fun W (b : Below w.heap.size w W) => own_any _ l W (h.out.below b) (by omega))
    have SF := Lib.hid (fun v W hv => set_any v l f W hv (by omega) SM sf)
    have SR := Lib.hid (fun W (b : Below w.heap.size w W) => rset_any _ l f W (h.out.below b) (by omega) SM sf)
    have RS := Lib.hid (fun v u W h1 h2 => rsame_any v u (setL rightF l f).1 (setL rightF l f).1 W h1 h2 (by omega))
    have CH := Lib.hid (fun v W hv => check_any v l W hv (by omega) SM)
    have RC := Lib.hid (fun W (b : Below w.heap.size w W) => rcheck_any _ l W (h.out.below b) (by omega) SM)
    have FD := Lib.hid (fun v W hv => find_fix v l s W hv (by omega))
    have RF := Lib.hid (fun W (b : Below w.heap.size w W) => rfind_fix _ l s W (h.out.below b) (by omega))
    have R1 := Lib.hid (fun W => fright_any f W sf)
    have R2 := Lib.hid (fun W => rfright_any f W sf)
    simp only [decide_true] at RS
    clear la hn SM sf a1 a3 a4 hf
    generalize setL rightF l f = A1 at *
    generalize checkL rightF l = ce at *
    generalize find l s = o at *
    generalize rightF f = r at *
    obtain ⟨x1, e1⟩ := A1
    obtain ⟨xo, hxo⟩ : ∃ xo, xo = o.getD zf := ⟨_, rfl⟩
    obtain ⟨ob, hob⟩ : ∃ ob, ob = o.isSome := ⟨_, rfl⟩
    have FD' : Hid (∀ v W, FixAt W v l → Calls Try.prog 15 #[v, .string s] W fun e w' => e = .returned (.tuple #[fxV xo, .bool ob]) ∧ Below W.heap.size W w') := Lib.hid (by rw [hxo, hob]; exact FD.out)
    have RF' : Hid (∀ W, Below w.heap.size w W → Calls Try.prog 16 #[.slice p n c, .string s] W fun e w' => e = .returned (.tuple #[fxV xo, .bool ob]) ∧ Below W.heap.size W w') := Lib.hid (by rw [hxo, hob]; exact RF.out)
    clear FD RF hxo hob
    obtain ⟨f0, f1, f2⟩ := f
    obtain ⟨g0, g1, g2⟩ := xo
    have hq := fun w => eql_fix ⟨g0, g1, g2⟩ ⟨g0, g1, g2⟩ w
    have hgd := fun op a b w => guard_fix op a b #[.string g0, .int .i64 g1, .int .i64 g2] #[.string g0, .int .i64 g1, .int .i64 g2] w
    unfold fxV at *
    simp only [decide_true] at hq
    have HQ := Lib.hid hq
    have HGD := Lib.hid hgd
    clear hq hgd
    simp only [fxO] at T TB FW
    go_enter Try.func3, Try.ntmps3
    go_wp2_with fail
    refine (awake_any _).mono ?_
    rintro e w1 ⟨rfl, b1⟩
    obtain ⟨q0, q1, q2⟩ := T.out _ b1
    try simp only at q0 q1 q2
    have B1 := Lib.hid b1
    have FL := Lib.hid (FW.out _ ((TB.out _ b1).trans (((Below.refl _ _).alloc (Nat.le_refl _) (.cells #[.string f0, .string s] 9)).mono (TB.out _ b1).size)) _ (lit_strs w1 [f0, s] #[.string f0, .string s] 2 rfl rfl (by omega)))
    have B2 := Lib.hid (below_next b1 ((Below.refl _ _).alloc (Nat.le_refl _) (.cells #[.string f0, .string s] 9)))
    clear b1
    go_wp2_with fail
    refine FL.out.mono ?_
    rintro e w2 ⟨rfl, rfl⟩
    clear q0 q1 q2 FL
    go_wp2_with fail
    generalize w1.alloc (.cells #[.string f0, .string s] 9) = w2 at *
    have S : Hid (∀ w', Below w2.heap.size w2 w' → Below w2.heap.size w2 w' ∧ w'.cell? ⟨w.heap.size, 0, none⟩ = some (.string f0) ∧ w'.cell? ⟨w.heap.size, 1, none⟩ = some (.int .i64 f1) ∧ w'.cell? ⟨w.heap.size, 2, none⟩ = some (.int .i64 f2)) := Lib.hid fun w' b => ⟨b, T.out w' (below_next B2.out b)⟩
    have WB := Lib.hid (fun W (b : Below w2.heap.size w2 W) => TB.out _ (below_next B2.out b))
    go_region_held3 (fun w' => Below w2.heap.size w2 w' ∧ w'.cell? ⟨w.heap.size, 0, none⟩ = some (.string f0) ∧ w'.cell? ⟨w.heap.size, 1, none⟩ = some (.int .i64 f1) ∧ w'.cell? ⟨w.heap.size, 2, none⟩ = some (.int .i64 f2)) (first | exact S.out _ (aw_drew _) | exact S.out _ (by assumption)) ((first
      | (go_at_call 13; refine (ON.out _ (WB.out _ (by first | exact And.left (by assumption) | assumption | exact aw_drew _))).mono ?_; rintro e wz ⟨v3, rfl, h3, bz⟩; have bz' := below_next (W := w2) (by first | exact And.left (by assumption) | assumption | exact aw_drew _) bz)
      | (go_at_call 12; refine (SF.out _ _ (by first | assumption | exact FixAt.below (by assumption) (by assumption))).mono ?_; rintro e wy ⟨v4, rfl, h4, bu⟩; have bu' := below_next (W := w2) (by first | exact And.left (by assumption) | assumption | exact aw_drew _) bu)))
    have H4 := Lib.hid h4
    have B4 := Lib.hid bu'
    obtain ⟨_, q0, q1, q2⟩ := S.out _ bu'
    clear h3 bz bz' bu bu' h4
    go_wp2_with fail
    refine (SR.out _ (WB.out _ B4.out)).mono ?_
    rintro e w5 ⟨v5, rfl, h5, b5⟩
    have B5 := Lib.hid (below_next B4.out b5)
    have H5 := Lib.hid h5
    have G5 := Lib.hid (H4.out.below b5)
    clear h5 b5 q0 q1 q2
    go_wp2_with fail
    refine (ON.out _ (WB.out _ B5.out)).mono ?_
    rintro e w6 ⟨v6, rfl, h6, b6⟩
    have B6 := Lib.hid (below_next B5.out b6)
    have H6 := Lib.hid (H5.out.below b6)
    have G6 := Lib.hid (G5.out.below b6)
    have C6 := Lib.hid (FD'.out _ _ h6)
    clear b6 h6
    go_wp2_with fail
    refine C6.out.mono ?_
    rintro e w7 ⟨rfl, b7⟩
    have B7 := Lib.hid (below_next B6.out b7)
    have H7 := Lib.hid (H6.out.below b7)
    have G7 := Lib.hid (G6.out.below b7)
    clear b7 C6
    have NB := FixBlk.new w7 ⟨g0, g1, g2⟩
    simp only at NB
    have ba : Below w7.heap.size w7 (w7.alloc (.cells #[.string g0, .int .i64 g1, .int .i64 g2] 24)) := (Below.refl _ _).alloc (Nat.le_refl _) _
    go_wp2_with fail
    generalize w7.alloc (.cells #[.string g0, .int .i64 g1, .int .i64 g2] 24) = w8 at *
    have B8 := Lib.hid (below_next B7.out ba)
    have H8 := Lib.hid (H7.out.below ba)
    have G8 := Lib.hid (G7.out.below ba)
    have N8 := Lib.hid NB
    clear ba NB
    refine (RF'.out _ (WB.out _ B8.out)).mono ?_
    rintro e w9 ⟨rfl, b9⟩
    have B9 := Lib.hid (below_next B8.out b9)
    have H9 := Lib.hid (H8.out.below b9)
    have G9 := Lib.hid (G8.out.below b9)
    have N9 := Lib.hid (N8.out.below b9 N8.out.lt)
    clear b9
    have NB := FixBlk.new w9 ⟨g0, g1, g2⟩
    simp only at NB
    have ba : Below w9.heap.size w9 (w9.alloc (.cells #[.string g0, .int .i64 g1, .int .i64 g2] 24)) := (Below.refl _ _).alloc (Nat.le_refl _) _
    go_wp2_with fail
    generalize w9.alloc (.cells #[.string g0, .int .i64 g1, .int .i64 g2] 24) = w10 at *
    have B10 := Lib.hid (below_next B9.out ba)
    have H10 := Lib.hid (H9.out.below ba)
    have G10 := Lib.hid (G9.out.below ba)
    have N10 := Lib.hid (N9.out.below ba N9.out.lt)
    have M10 := Lib.hid NB
    have S7 : Hid (∀ w', Below w10.heap.size w10 w' → Below w10.heap.size w10 w' ∧ w'.cell? ⟨w.heap.size, 0, none⟩ = some (.string f0) ∧ w'.cell? ⟨w.heap.size, 1, none⟩ = some (.int .i64 f1) ∧ w'.cell? ⟨w.heap.size, 2, none⟩ = some (.int .i64 f2) ∧ w'.cell? ⟨w7.heap.size, 0, none⟩ = some (.string g0) ∧ w'.cell? ⟨w7.heap.size, 1, none⟩ = some (.int .i64 g1) ∧ w'.cell? ⟨w7.heap.size, 2, none⟩ = some (.int .i64 g2) ∧ w'.cell? ⟨w9.heap.size, 0, none⟩ = some (.string g0) ∧ w'.cell? ⟨w9.heap.size, 1, none⟩ = some (.int .i64 g1) ∧ w'.cell? ⟨w9.heap.size, 2, none⟩ = some (.int .i64 g2)) := Lib.hid fun w' b => by
      obtain ⟨c0, c1, c2⟩ := T.out w' (below_next B2.out (below_next B10.out b))
      obtain ⟨d0, d1, d2⟩ := (N10.out.below b N10.out.lt).cells
      obtain ⟨e0, e1, e2⟩ := (M10.out.below b M10.out.lt).cells
      exact ⟨b, c0, c1, c2, d0, d1, d2, e0, e1, e2⟩
    have WX := Lib.hid (fun W (b : Below w10.heap.size w10 W) => WB.out _ (below_next B10.out b))
    have m1 : (ce == ce) = true := by simp
    have m2 : (e1 == e1) = true := by simp
    have m3 : (ob == ob) = true := by simp
    have hq := HQ.out
    have hgd := HGD.out
    clear ba NB
    cases r
    all_goals
      go_region_held3 (fun w' => Below w10.heap.size w10 w' ∧ w'.cell? ⟨w.heap.size, 0, none⟩ = some (.string f0) ∧ w'.cell? ⟨w.heap.size, 1, none⟩ = some (.int .i64 f1) ∧ w'.cell? ⟨w.heap.size, 2, none⟩ = some (.int .i64 f2) ∧ w'.cell? ⟨w7.heap.size, 0, none⟩ = some (.string g0) ∧ w'.cell? ⟨w7.heap.size, 1, none⟩ = some (.int .i64 g1) ∧ w'.cell? ⟨w7.heap.size, 2, none⟩ = some (.int .i64 g2) ∧ w'.cell? ⟨w9.heap.size, 0, none⟩ = some (.string g0) ∧ w'.cell? ⟨w9.heap.size, 1, none⟩ = some (.int .i64 g1) ∧ w'.cell? ⟨w9.heap.size, 2, none⟩ = some (.int .i64 g2)) (first | exact S7.out _ (aw_drew _) | exact S7.out _ (by assumption)) ((first
        | (go_at_call 17; (with_reducible refine (R1.out _).mono ?_); rintro e wz ⟨rfl, bz⟩; have bz' := below_next (W := w10) (by first | exact And.left (by assumption) | assumption | exact aw_drew _) bz)
        | (go_at_call 18; (with_reducible refine (R2.out _).mono ?_); rintro e wz ⟨rfl, bz⟩; have bz' := below_next (W := w10) (by first | exact And.left (by assumption) | assumption | exact aw_drew _) bz)
        | (go_at_call 13; refine (ON.out _ (WX.out _ (by first | exact And.left (by assumption) | assumption | exact aw_drew _))).mono ?_; rintro e wz ⟨v11, rfl, h11, bz⟩; have bz' := below_next (W := w10) (by first | exact And.left (by assumption) | assumption | exact aw_drew _) bz)
        | (go_at_call 19; refine (CH.out _ _ (by first | assumption | exact FixAt.below (by assumption) (by assumption))).mono ?_; rintro e wz ⟨rfl, bz⟩; have bz' := below_next (W := w10) (by first | exact And.left (by assumption) | assumption | exact aw_drew _) bz)
        | (go_at_call 20; refine (RC.out _ (WX.out _ (by first | exact And.left (by assumption) | assumption | exact aw_drew _))).mono ?_; rintro e wz ⟨rfl, bz⟩; have bz' := below_next (W := w10) (by first | exact And.left (by assumption) | assumption | exact aw_drew _) bz)
        | (go_at_call 21; refine (RS.out _ _ _ (FixAt.below G10.out (by first | exact And.left (by assumption) | assumption | exact aw_drew _)) (FixAt.below H10.out (by first | exact And.left (by assumption) | assumption | exact aw_drew _))).mono ?_; rintro e wz ⟨rfl, bz⟩; have bz' := below_next (W := w10) (by first | exact And.left (by assumption) | assumption | exact aw_drew _) bz)))
    all_goals
      go_wp2_with fail
      go_ret
      exact ⟨rfl, WB.out _ (below_next B10.out (by first | exact And.left (by assumption) | assumption))⟩
theorem sets_walk (v : Value) (l : List Fx) (f : Fx) (s : ByteArray) (w : World) (h : FixAt w v l) : Calls Try.prog 3 #[v, fxV f, .string s] w (RB true w) := by
  obtain ⟨p, c, rfl⟩ := fix_form h
  exact sets_go p _ c l f s w (Lib.hid rfl) (Lib.hid h)
end Go.Proofs.Ytkmgapieoedelaa
