/- Texts of this seat, one behind the other: ParJ, ParEd, ParLa, ParLb. -/
import Derived.Test.YtggjckalmlploaaGreatDoorKn46
import Derived.Test.YtggjckalmlploaaGreatDoorKn24
import Derived.Test.YtggjckalmlploaaGreatDoorKn17
import Derived.Test.YtggjckalmlploaaGreatDoorKn35
import Derived.Test.YtggjckalmlploaaGreatDoorKn37
import Derived.Test.YtggjckalmlploaaGreatDoorKn38
/- The parser: Parse. -/
set_option maxRecDepth 100000
namespace Go.Proofs.YtggjckalmlploaaGreatDoor
open Go.Shelf Go.RowKit Go.Lib Go.Proofs.TreeMath Go.Proofs.LexMath Go.Proofs.FixMath Go.Proofs.ParMath
def cfg (s : ByteArray) (fs : List Fx) : Cfg := ⟨(s.size : Int), fs, climbL Lx.rightF⟩
/-- What Parse answers. -/
def parseR (s : ByteArray) (fs : List Fx) (x : Int) : List Nd × Int × Int :=
  if checkL Lx.rightF fs = 0 then (match lex s.data.toList with | .ok ts => tokensR (cfg s fs) ts x | .err c p => ([], (p : Int), c)) else ([], 0, checkL Lx.rightF fs)
/-- A text's tokens are few and short. -/
theorem lex_lim {s : ByteArray} (hs : s.size ≤ 700) {ts : List Tok} (h : lex s.data.toList = .ok ts) : Lim ts ∧ ∀ t ∈ ts, 0 ≤ t.at_ ∧ t.at_ < s.size := by
  have hl := lex_line 0 0 s.data.toList (Nat.zero_le _)
  have e : lexAt 0 0 s.data.toList = .ok ts := h
  rw [e] at hl
  obtain ⟨h1, h2, _⟩ := hl
  have hsz : s.data.toList.length = s.size := rfl
  have key : ∀ (p : Nat) (ts : List Tok), Line p (0 + s.data.toList.length) s.data.toList.length ts → ∀ t ∈ ts, t.text.size ≤ 1000 ∧ 0 ≤ t.at_ ∧ t.at_ < s.size := by
    intro p ts
    induction ts generalizing p with
    | nil => intro _ t ht; cases ht
    | cons a ts ih =>
      rintro ⟨⟨_, g2, g3, g4⟩, g5⟩ t ht
      rcases List.mem_cons.1 ht with rfl | ht
      · have e2 : t.bytes.length = t.text.size := rfl
        exact ⟨by omega, by omega, by omega⟩
      · exact ih _ g5 t ht
  exact ⟨⟨by omega, fun t ht => (key 0 ts h1 t ht).1⟩, fun t ht => (key 0 ts h1 t ht).2⟩
theorem lex_err {s : ByteArray} {c : Int} {p : Nat} (h : lex s.data.toList = .err c p) : p < s.size ∧ 30 ≤ c ∧ c ≤ 33 := by
  have hl := lex_line 0 0 s.data.toList (Nat.zero_le _)
  have e : lexAt 0 0 s.data.toList = .err c p := h
  rw [e] at hl
  obtain ⟨_, h1, h2, h3⟩ := hl
  have hsz : s.data.toList.length = s.size := rfl
  exact ⟨by omega, h2, h3⟩
/-- What is left to prove of exprs. -/
def ExprOK (C : Cfg) : Prop := ∀ p s W, PS C p 0 s W → Calls Tryz.prog 17 #[.pointer (some ⟨p, 0, none⟩)] W (NP C p 0 ((epM C 100).1 s) W)
set_option maxHeartbeats 8000000 in
theorem parse_any (s : ByteArray) (fv : Value) (fs : List Fx) (w : World) (hf : Lx.FixAt w fv fs) (hn : fs.length ≤ 1000000) (hsm : Lx.Small fs) (hs : s.size ≤ 700) (htab : Tab w) (h1 : 1 < w.heap.size) (x : Int)
    (hx : ∀ ts, lex s.data.toList = .ok ts → CheckIs (topN (cfg s fs) ts) 0 x) (hE : ExprOK (cfg s fs)) : Calls Tryz.prog 8 #[.string s, fv] w (R3 (parseR s fs x) w) := by
  have K := Lib.hid (Lx.check_any fv fs w hf hn hsm)
  obtain ⟨q, c, rfl⟩ : ∃ q c, fv = .slice q fs.length c := by obtain ⟨_, q, c, e, _⟩ := hf; exact ⟨q, c, e⟩
  by_cases hc : checkL Lx.rightF fs = 0
  · have TK := Lib.hid (fun ts w1 w2 v (hb : Below w.heap.size w w1) (hb2 : Below w1.heap.size w1 w2) (e : lex s.data.toList = .ok ts) (hv : Lx.ToksAt w2 v ts) => tokens_ok (cfg s fs) v (.slice q fs.length c) ts w2 hv (Lx.SliceAt.below (Lx.SliceAt.below hf hb) hb2) hn hsm hc (lex_lim hs e).1 (fun k hk => by
      have := htab k hk
      have h2 := hb.size
      rw [hb2.cell (p := ⟨1, k, none⟩) (by show 1 < w1.heap.size; omega), hb.cell (p := ⟨1, k, none⟩) h1]; exact this) (by have := hb.size; have := hb2.size; omega) (rowed_climb _ _ _) x (hx ts e) hE)
    have LX := Lib.hid (fun w1 => Lx.lex_any s w1 (by omega))
    have PR : parseR s fs x = (match lex s.data.toList with | .ok ts => tokensR (cfg s fs) ts x | .err c p => ([], (p : Int), c)) := by unfold parseR; rw [if_pos hc]
    rw [PR]
    rw [hc] at K
    clear hf hn hsm htab h1 hx hE hc PR
    cases hl : lex s.data.toList with
    | err e0 p0 =>
      have hz : (e0 == 0) = false := by rw [beq_eq_false_iff_ne]; have := lex_err hl; omega
      have hz2 : (e0 != 0) = true := by simp [bne, hz]
      rw [hl] at LX
      clear TK hl
      go_enter Tryz.func8, Tryz.ntmps8
      go_wp2_with fail
      refine K.out.mono ?_
      rintro e w1 ⟨rfl, hb⟩
      have B1 := Lib.hid hb
      clear hb
      go_wp2_with fail
      refine (LX.out w1).mono ?_
      rintro e w2 ⟨rfl, hb2⟩
      have B2 := Lib.hid (B1.out.trans (hb2.mono B1.out.size))
      clear hb2
      go_wp2_with fail
      go_ret3
      exact ⟨_, rfl, nodes_nil _, B2.out⟩
    | ok ts =>
      rw [hl] at LX TK
      clear hl
      generalize hRR : tokensR (cfg s fs) ts x = RR at TK ⊢
      clear hRR
      go_enter Tryz.func8, Tryz.ntmps8
      go_wp2_with fail
      refine K.out.mono ?_
      rintro e w1 ⟨rfl, hb⟩
      have B1 := Lib.hid hb
      clear hb
      go_wp2_with fail
      refine (LX.out w1).mono ?_
      rintro e w2 ⟨v, rfl, hv, hb2⟩
      obtain ⟨q2, c2, rfl⟩ : ∃ q c, v = .slice q ts.length c := by obtain ⟨_, q, c, e, _⟩ := hv; exact ⟨q, c, e⟩
      have T2 := Lib.hid (TK.out ts w1 w2 _ B1.out hb2 rfl hv)
      have B2 := Lib.hid (B1.out.trans (hb2.mono B1.out.size))
      clear hv hb2
      unfold cfg at T2
      simp only at T2
      go_wp2_with fail
      refine T2.out.mono ?_
      rintro e w3 ⟨v3, rfl, hv3, hb3⟩
      have V3 := Lib.hid hv3
      have B3 := Lib.hid (B2.out.trans (hb3.mono B2.out.size))
      clear hv3 hb3
      go_wp2_with fail
      go_ret3
      exact ⟨_, rfl, V3.out, B3.out⟩
  · have hz : (checkL Lx.rightF fs == 0) = false := by rw [beq_eq_false_iff_ne]; exact hc
    have PR : parseR s fs x = ([], 0, checkL Lx.rightF fs) := by unfold parseR; rw [if_neg hc]
    rw [PR]
    generalize checkL Lx.rightF fs = y at K hz ⊢
    have hz2 : (y != 0) = true := by simp [bne, hz]
    clear hc hf hx hE PR
    go_enter Tryz.func8, Tryz.ntmps8
    go_wp2_with fail
    refine K.out.mono ?_
    rintro e w1 ⟨rfl, hb⟩
    have B1 := Lib.hid hb
    clear hb
    go_wp2_with fail
    go_ret3
    exact ⟨_, rfl, nodes_nil _, B1.out⟩
end Go.Proofs.YtggjckalmlploaaGreatDoor
/- The parser: exprs and pats, so deep inside. -/
set_option maxRecDepth 100000
namespace Go.Proofs.YtggjckalmlploaaGreatDoor
open Go.Shelf Go.RowKit Go.Lib Go.Proofs.TreeMath Go.Proofs.LexMath Go.Proofs.FixMath Go.Proofs.ParMath
theorem call34 (vs : Array Value) (w : World) : (callFunc 34 vs).run Tryz.prog w = .ok (.enter 34 vs) w := run_callFunc Tryz.func34 (by kernel_rfl) (by kernel_rfl) vs w
theorem call119 (vs : Array Value) (w : World) : (callFunc 119 vs).run Tryz.prog w = .ok (.enter 119 vs) w := run_callFunc Tryz.func119 (by kernel_rfl) (by kernel_rfl) vs w
theorem NP.from_new {C : Cfg} {p : Nat} {dp : Int} {r : List Nd × St} {w : World} {o : Obj} {e : Ending} {w' : World} (h : NP C p dp r (w.alloc o) e w') : NP C p dp r w e w' := by
  obtain ⟨v, h1, h2, h3, h4, h5⟩ := h
  exact ⟨v, h1, h2, h3.mono (by simp), h4, ((Bar.refl p w).alloc o).trans h5⟩
set_option maxHeartbeats 4000000 in
theorem expr_deep (C : Cfg) (p : Nat) : EOK C p 100 17 (deepM C) := fun s w0 h => by
  have K := Lib.hid (fun fv => nested_deep C p s fv (w0.alloc (.cells #[.pointer (some ⟨p, 0, none⟩)] 69)) (h.below (lit_below w0 _)))
  clear h
  generalize deepM C s = R at K
  go_enter Tryz.func17, Tryz.ntmps17
  go_wp2_with fail
  refine (K.out _).mono ?_
  rintro e w1 hr
  obtain ⟨v, rfl, h2, h3, h4, h5⟩ := hr.from_new
  have A := Lib.hid (And.intro h2 (And.intro h3 (And.intro h4 h5)))
  clear h2 h3 h4 h5 hr
  go_wp2_with fail
  go_ret
  exact ⟨_, rfl, A.out.1, A.out.2.1, A.out.2.2.1, A.out.2.2.2⟩
set_option maxHeartbeats 4000000 in
theorem pat_deep (C : Cfg) (p : Nat) : EOK C p 100 89 (deepM C) := fun s w0 h => by
  have K := Lib.hid (fun fv => nested_deep C p s fv (w0.alloc (.cells #[.pointer (some ⟨p, 0, none⟩)] 69)) (h.below (lit_below w0 _)))
  clear h
  generalize deepM C s = R at K
  go_enter Tryz.func89, Tryz.ntmps89
  go_wp2_with fail
  refine (K.out _).mono ?_
  rintro e w1 hr
  obtain ⟨v, rfl, h2, h3, h4, h5⟩ := hr.from_new
  have A := Lib.hid (And.intro h2 (And.intro h3 (And.intro h4 h5)))
  clear h2 h3 h4 h5 hr
  go_wp2_with fail
  go_ret
  exact ⟨_, rfl, A.out.1, A.out.2.1, A.out.2.2.1, A.out.2.2.2⟩
set_option maxHeartbeats 4000000 in
theorem expr_next {C : Cfg} {p d : Nat} {E P : Par} (hd : d < 100) (V : Env C p ((d : Int) + 1) E P) (hC : C.climb = climbL Lx.rightF) (hfs : C.fs.length ≤ 1000000) (hsm : Lx.Small C.fs) : EOK C p (d : Int) 17 (exprB C E P) := fun s w0 h => by
  have hlt := h.lt
  have bx := lit_cells w0 #[.pointer (some ⟨p, 0, none⟩)] 69
  have K := Lib.hid (nested_any C p d s 34 #[.pointer (some ⟨w0.heap.size, 0, none⟩)] (exprB C E P) (w0.alloc (.cells #[.pointer (some ⟨p, 0, none⟩)] 69)) hd (h.below (lit_below w0 _)) call34 fun W hP hB => expr1_any V (fun s W h => row_any V hC hfs hsm s W h) s W hP ⟨by omega, (hB.cell (a := ⟨w0.heap.size, 0, none⟩) (by simp) (by show w0.heap.size ≠ p; omega)).trans (bx 0 _ rfl)⟩)
  clear h V hC hfs hsm hlt bx hd
  generalize exprB C E P s = R at K
  go_enter Tryz.func17, Tryz.ntmps17
  go_wp2_with fail
  refine K.out.mono ?_
  rintro e w1 hr
  obtain ⟨v, rfl, h2, h3, h4, h5⟩ := hr.from_new
  have A := Lib.hid (And.intro h2 (And.intro h3 (And.intro h4 h5)))
  clear h2 h3 h4 h5 hr
  go_wp2_with fail
  go_ret
  exact ⟨_, rfl, A.out.1, A.out.2.1, A.out.2.2.1, A.out.2.2.2⟩
set_option maxHeartbeats 4000000 in
theorem pat_next {C : Cfg} {p d : Nat} {E P : Par} (hd : d < 100) (V : Env C p ((d : Int) + 1) E P) : EOK C p (d : Int) 89 (patB C E P) := fun s w0 h => by
  have hlt := h.lt
  have bx := lit_cells w0 #[.pointer (some ⟨p, 0, none⟩)] 69
  have K := Lib.hid (nested_any C p d s 119 #[.pointer (some ⟨w0.heap.size, 0, none⟩)] (patB C E P) (w0.alloc (.cells #[.pointer (some ⟨p, 0, none⟩)] 69)) hd (h.below (lit_below w0 _)) call119 fun W hP hB => pat1_any V s W hP ⟨by omega, (hB.cell (a := ⟨w0.heap.size, 0, none⟩) (by simp) (by show w0.heap.size ≠ p; omega)).trans (bx 0 _ rfl)⟩)
  clear h V hlt bx hd
  generalize patB C E P s = R at K
  go_enter Tryz.func89, Tryz.ntmps89
  go_wp2_with fail
  refine K.out.mono ?_
  rintro e w1 hr
  obtain ⟨v, rfl, h2, h3, h4, h5⟩ := hr.from_new
  have A := Lib.hid (And.intro h2 (And.intro h3 (And.intro h4 h5)))
  clear h2 h3 h4 h5 hr
  go_wp2_with fail
  go_ret
  exact ⟨_, rfl, A.out.1, A.out.2.1, A.out.2.2.1, A.out.2.2.2⟩
theorem ep_ok {C : Cfg} (p : Nat) (hC : C.climb = climbL Lx.rightF) (hfs : C.fs.length ≤ 1000000) (hsm : Lx.Small C.fs) (hR : Rowed C) : ∀ n d : Nat, d + n = 100 → EOK C p (d : Int) 17 (epM C n).1 ∧ EOK C p (d : Int) 89 (epM C n).2 := by
  intro n
  induction n with
  | zero => intro d hd; obtain rfl : d = 100 := by omega
            exact ⟨expr_deep C p, pat_deep C p⟩
  | succ n ih =>
    intro d hd
    obtain ⟨h1, h2⟩ := ih (d + 1) (by omega)
    have e : ((d + 1 : Nat) : Int) = (d : Int) + 1 := by omega
    rw [e] at h1 h2
    have hz := ep_sz (C := C) (L := 1000) hR n
    have V : Env C p ((d : Int) + 1) (epM C n).1 (epM C n).2 := ⟨h1, h2, hz.1, hz.2, hR⟩
    exact ⟨expr_next (by omega) V hC hfs hsm, pat_next (by omega) V⟩
theorem expr_ok (s : ByteArray) (fs : List Fx) (hfs : fs.length ≤ 1000000) (hsm : Lx.Small fs) : ExprOK (cfg s fs) := fun p st W h => (ep_ok (C := cfg s fs) p rfl hfs hsm (rowed_climb _ _ _) 100 0 rfl).1 st W h
end Go.Proofs.YtggjckalmlploaaGreatDoor
/- The laws' helpers: few. -/
set_option maxRecDepth 100000
namespace Go.Proofs.YtggjckalmlploaaGreatDoor.Lx
open Go.Shelf Go.RowKit Go.Lib Go.Proofs.FixMath
theorem get_fxx (ts : List Fx) (k : Nat) (h : k < ts.length) : ts.getD k default = ts[k] := by rw [List.getD_eq_getElem?_getD, List.getElem?_eq_getElem h, Option.getD_some]
def fewB (ts : List Fx) : Bool := (ts.take 21).all (fun t => decide (t.op.size ≤ 20)) && decide (ts.length ≤ 20)
theorem few_not {ts : List Fx} (k : Nat) (hk : k < ts.length) (_h60 : k < 21) (h : ¬ (ts.getD k default).op.size ≤ 20) : fewB ts = false := by
  rw [Bool.eq_false_iff]
  intro g
  simp only [fewB, Bool.and_eq_true, List.all_eq_true, decide_eq_true_eq] at g
  apply h
  rw [get_fxx ts k hk]
  exact g.1 _ (List.mem_take_iff_getElem.2 ⟨k, by omega, rfl⟩)
theorem few_yes {ts : List Fx} (h : ∀ i, i < ts.length → i < 21 → (ts.getD i default).op.size ≤ 20) : fewB ts = decide (ts.length ≤ 20) := by
  unfold fewB
  have : (ts.take 21).all (fun t => decide (t.op.size ≤ 20)) = true := by
    rw [List.all_eq_true]
    intro t ht
    obtain ⟨i, hi, e⟩ := List.mem_take_iff_getElem.1 ht
    have := h i (by omega) (by omega)
    rw [get_fxx ts i (by omega), e] at this
    simpa using this
  rw [this, Bool.true_and]
theorem few_all {ts : List Fx} (h : fewB ts = true) : ts.length ≤ 20 ∧ ∀ t ∈ ts, t.op.size ≤ 20 := by
  simp only [fewB, Bool.and_eq_true, List.all_eq_true, decide_eq_true_eq] at h
  refine ⟨h.2, fun t ht => h.1 t ?_⟩
  rwa [List.take_of_length_le (by omega)]
theorem few_zero (p : Option Addr) (c : Nat) (w : World) : Calls Tryz.prog 7 #[.slice p 0 c] w fun e w' => e = .returned (.bool true) ∧ w = w' := by
  go_enter Tryz.func7, Tryz.ntmps7
  go_wp2
  refine wp_loop_rounds 1 ?_
  rw [rounds_succ]
  go_wp2
  go_ret
  exact ⟨rfl, rfl⟩
set_option maxHeartbeats 1000000 in
theorem few_some (b off c n : Nat) (ts : List Fx) (w : World) (hx : Hid (ts.length = n)) (h1 : Hid (CellsIn w b off (fxCells ts))) (hn : n ≤ maxLen) :
    Calls Tryz.prog 7 #[.slice (some ⟨b, off, none⟩) n c] w fun e w' => e = .returned (.bool (fewB ts)) ∧ w = w' := by
  have NOT := Lib.hid (fun k a b c => @few_not ts k a b c)
  have ALL := Lib.hid (@few_yes ts)
  generalize fewB ts = r at *
  unfold maxLen at hn
  go_enter Tryz.func7, Tryz.ntmps7
  go_wp2
  go_loop [3] (fun i => ∃ k : Nat, k ≤ n ∧ k ≤ 21 ∧ i = .int .i64 k ∧ ∀ j, j < k → (ts.getD j default).op.size ≤ 20) (fun i => n - (intOf i).toNat)
  case atStart => exact ⟨0, Nat.zero_le _, by omega, rfl, fun j hj => by omega⟩
  case round =>
    obtain ⟨k, hk, hk60, rfl, hpre⟩ := hrel
    have HP := Lib.hid hpre
    clear hpre
    by_cases hlt : k < n
    · by_cases h60 : k < 21
      · obtain ⟨a1, a2, a3⟩ := h1.out.fx k (by rw [hx.out]; exact hlt)
        have NK := NOT.out k (by rw [hx.out]; exact hlt) h60
        obtain ⟨x, hxk⟩ : ∃ x, x = ts.getD k default := ⟨_, rfl⟩
        rw [← hxk] at a1 a2 a3 NK
        have HX := Lib.hid hxk
        clear hxk
        obtain ⟨x2, x1, x3⟩ := x
        simp only at a1 a2 a3 NK
        by_cases g : x2.size ≤ 20
        · have G := Lib.hid g
          have g' : decide ((20 : Int) < (x2.size : Int)) = false := by simp; omega
          clear NK g
          go_wp2
          go_round
          case rel => exact ⟨k + 1, by omega, by omega, by go_num, fun j hj => by
            rcases Nat.lt_or_ge j k with h | h
            · exact HP.out j h
            · rw [show j = k by omega, ← HX.out]; exact G.out⟩
          case measure => simp [intOf]; omega
        · have E := Lib.hid (NK g)
          have g' : decide ((20 : Int) < (x2.size : Int)) = true := by simp; omega
          clear NK g
          go_wp2
          go_ret
          exact ⟨ret_bool E.out.symm, rfl⟩
      · have e := ALL.out fun i hi h => HP.out i (by omega)
        rw [hx.out, show decide (n ≤ 20) = decide ((n : Int) ≤ 20) by rw [Bool.eq_iff_iff]; simp only [decide_eq_true_eq]; omega] at e
        have E := Lib.hid e
        have g' : decide ((k : Int) < 21) = false := by simp; omega
        clear HP e
        go_wp2
        go_ret
        exact ⟨ret_bool E.out.symm, rfl⟩
    · have e := ALL.out fun i hi h => HP.out i (by rw [hx.out] at hi; omega)
      rw [hx.out, show decide (n ≤ 20) = decide ((n : Int) ≤ 20) by rw [Bool.eq_iff_iff]; simp only [decide_eq_true_eq]; omega] at e
      have E := Lib.hid e
      clear HP e
      go_wp2
      go_ret
      exact ⟨ret_bool E.out.symm, rfl⟩
theorem few_any (v : Value) (ts : List Fx) (w : World) (h : FixAt w v ts) : Calls Tryz.prog 7 #[v] w fun e w' => e = .returned (.bool (fewB ts)) ∧ w = w' := by
  obtain ⟨_, p, c, rfl, h3, h4, hp⟩ := h
  have hle := Nat.le_trans h3 h4
  rcases ts with _ | ⟨x, ts⟩
  · exact few_zero p c w
  · obtain ⟨b, off, rfl, hb, hc⟩ := hp (by simp)
    exact few_some b off c _ (x :: ts) w (Lib.hid rfl) hc hle
end Go.Proofs.YtggjckalmlploaaGreatDoor.Lx
/- The laws' helpers: what Parse answers; awake. -/
set_option maxRecDepth 100000
namespace Go.Proofs.YtggjckalmlploaaGreatDoor
open Go.Shelf Go.RowKit Go.Lib Go.Proofs.TreeMath Go.Proofs.LexMath Go.Proofs.FixMath Go.Proofs.ParMath
/-- What syn.Check says of what was read. -/
noncomputable def prsX (s : ByteArray) (fs : List Fx) : Int := match lex s.data.toList with | .ok ts => Classical.choose (check_ex (topN (cfg s fs) ts) 0) | .err _ _ => 0
theorem prsX_ok {s : ByteArray} {fs : List Fx} {ts : List Tok} (h : lex s.data.toList = .ok ts) : CheckIs (topN (cfg s fs) ts) 0 (prsX s fs) := by
  unfold prsX
  rw [h]
  exact Classical.choose_spec (check_ex (topN (cfg s fs) ts) 0)
noncomputable def prs (s : ByteArray) (fs : List Fx) : List Nd × Int × Int := parseR s fs (prsX s fs)
theorem Tab.big {w : World} (h : Tab w) : 1 < w.heap.size := World.block_lt_of_cell? _ _ (h 0 (by omega))
theorem Tab.below {w w' : World} (h : Tab w) (b : Below w.heap.size w w') : Tab w' := fun c hc => (b.cell (p := ⟨1, c, none⟩) h.big).trans (h c hc)
theorem small_fs {fs : List Fx} (h : ∀ f ∈ fs, f.op.size ≤ 20) : Lx.Small fs := fun f hf => Nat.le_trans (h f hf) (by omega)
theorem prs_any (s : ByteArray) (fv : Value) (fs : List Fx) (w : World) (hf : Lx.FixAt w fv fs) (hn : fs.length ≤ 20) (hsm : ∀ f ∈ fs, f.op.size ≤ 20) (hs : s.size ≤ 700) (htab : Tab w) : Calls Tryz.prog 8 #[.string s, fv] w (R3 (prs s fs) w) :=
  parse_any s fv fs w hf (by omega) (small_fs hsm) hs htab htab.big _ (fun _ h => prsX_ok h) (expr_ok s fs (by omega) (small_fs hsm))
/-! ### The chapter's example -/
def awT : ByteArray := ⟨#[102, 117, 110, 32, 120, 32, 45, 62, 32, 120, 32, 43, 32, 49]⟩
def awU : ByteArray := ⟨#[102, 117, 110, 32, 120, 32, 120]⟩
def awF : List Fx := [⟨⟨#[43]⟩, 6, -1⟩]
def awToks : List Tok := [⟨6, ⟨#[102, 117, 110]⟩, 0, 0⟩, ⟨1, ⟨#[120]⟩, 0, 4⟩, ⟨6, ⟨#[45, 62]⟩, 0, 6⟩, ⟨1, ⟨#[120]⟩, 0, 9⟩, ⟨5, ⟨#[43]⟩, 0, 11⟩, ⟨3, ⟨#[]⟩, 1, 13⟩]
def awUoks : List Tok := [⟨6, ⟨#[102, 117, 110]⟩, 0, 0⟩, ⟨1, ⟨#[120]⟩, 0, 4⟩, ⟨1, ⟨#[120]⟩, 0, 6⟩]
def awN : List Nd := [⟨5, ⟨#[120]⟩, 0, 1⟩, ⟨6, ⟨#[]⟩, 0, 2⟩, ⟨6, ⟨#[]⟩, 0, 2⟩, ⟨3, ⟨#[43]⟩, 0, 0⟩, ⟨3, ⟨#[120]⟩, 0, 0⟩, ⟨1, ⟨#[]⟩, 1, 0⟩]
def awG : F := .cons ⟨5, ⟨#[120]⟩, 0, 1⟩ (.cons ⟨6, ⟨#[]⟩, 0, 2⟩ (.cons ⟨6, ⟨#[]⟩, 0, 2⟩ (.cons ⟨3, ⟨#[43]⟩, 0, 0⟩ .nil (.cons ⟨3, ⟨#[120]⟩, 0, 0⟩ .nil .nil)) (.cons ⟨1, ⟨#[]⟩, 1, 0⟩ .nil .nil)) .nil) .nil
def awC : Cfg := ⟨1, awF, climbL Lx.rightF⟩
def awV : List Tok := [⟨1, ⟨#[120]⟩, 0, 0⟩]
def awM : List Nd := [⟨3, ⟨#[120]⟩, 0, 0⟩]
theorem aw_lex : lex awT.data.toList = .ok awToks := by rfl
theorem aw_ulex : lex awU.data.toList = .ok awUoks := by rfl
theorem aw_ep : (epM (cfg awT awF) 100).1 (st0 awToks) = (awN, ⟨[], 0, 0⟩) := by rfl
theorem aw_top : topN (cfg awT awF) awToks = awN := by unfold topN; rw [aw_ep]
theorem aw_chk : checkL Lx.rightF awF = 0 := by rfl
theorem aw_is : CheckIs awN 0 0 := .inr ⟨awG, by simp [awG, F.ok, F.cnt], rfl, rfl, by rfl⟩
theorem aw_isM : CheckIs awM 0 0 := .inr ⟨.cons ⟨3, ⟨#[120]⟩, 0, 0⟩ .nil .nil, by simp [F.ok, F.cnt], rfl, rfl, by rfl⟩
theorem aw_r1 : parseR awT awF 0 = (awN, 0, 0) := by
  unfold parseR
  rw [if_pos aw_chk, aw_lex]
  simp only
  unfold tokensR topS
  rw [aw_top, aw_ep]
  rfl
theorem aw_r2 (x : Int) : parseR awU awF x = ([], 6, 70) := by
  unfold parseR
  rw [if_pos aw_chk, aw_ulex]
  simp only
  unfold tokensR
  have h : topS (cfg awU awF) awUoks = ⟨[], 70, 6⟩ := by rfl
  rw [h]
  rfl
theorem aw_r3 : tokensR awC awV 0 = (awM, 0, 0) := by
  unfold tokensR
  have h : topS awC awV = ⟨[], 0, 0⟩ := by rfl
  have h2 : topN awC awV = awM := by rfl
  rw [h, h2]
  rfl
end Go.Proofs.YtggjckalmlploaaGreatDoor
