/- The contracts of the document's Same, and of the laws' own few, own, exact. -/
import Derived.Test.YtgcojmjllpjefaaLSame
import Derived.Deep.QuietTactic
import Derived.BigQuiet
namespace Go.Proofs.Ytgcojmjllpjefaa
open Go.RowKit Go.Proofs.LexMath

theorem rsame_far (p q : Option Addr) (n m c d : Nat) (w : World) (h : ¬ n = m) : Calls Try.prog 18 #[.slice p n c, .slice q m d] w (RB false w) := by
  have h2 : ((n : Int) != (m : Int)) = true := by simp; omega
  have h3 : ((n : Int) == (m : Int)) = false := by simp; omega
  clear h
  go_enter Try.func18, Try.ntmps18
  go_wp2
  go_ret
  exact ⟨rfl, Below.refl _ _⟩
theorem rsame_zero (p q : Option Addr) (c d : Nat) (w : World) : Calls Try.prog 18 #[.slice p 0 c, .slice q 0 d] w (RB true w) := by
  go_enter Try.func18, Try.ntmps18
  go_wp2
  refine wp_loop_rounds 1 ?_
  rw [rounds_succ]
  go_wp2
  go_ret
  exact ⟨rfl, Below.refl _ _⟩
set_option maxRecDepth 100000 in
set_option maxHeartbeats 4000000 in
theorem rsame_some (b off b2 off2 c d n : Nat) (xs ys : List Tok) (w : World) (hx : Hid (xs.length = n)) (hy : Hid (ys.length = n)) (h1 : Hid (CellsIn w b off (tokCells xs))) (h2 : Hid (CellsIn w b2 off2 (tokCells ys))) (hb : b < w.heap.size) (hb2 : b2 < w.heap.size) (hn : n ≤ 1000000) :
    Calls Try.prog 18 #[.slice (some ⟨b, off, none⟩) n c, .slice (some ⟨b2, off2, none⟩) n d] w (RB (sameB xs ys) w) := by
  have NOT := Lib.hid (fun k a b => @same_not xs ys k a b)
  have ALL := Lib.hid (@same_all xs ys (hx.out.trans hy.out.symm))
  generalize sameB xs ys = r at *
  go_enter Try.func18, Try.ntmps18
  go_wp2
  go_loopw [5] (fun i wr => ∃ k : Nat, k ≤ n ∧ i = .int .i64 k ∧ Below w.heap.size w wr ∧ ∀ j, j < k → (xs.getD j default).core = (ys.getD j default).core) (fun i _ => n - (intOf i).toNat)
  case atStart => exact ⟨0, Nat.zero_le _, rfl, Below.refl _ _, fun j hj => by omega⟩
  case round =>
    obtain ⟨wo, hwo⟩ : ∃ wo : World, wo = wr := ⟨_, rfl⟩
    subst hwo
    obtain ⟨k, hk, rfl, hbel, hpre⟩ := hrel
    have HP := Lib.hid hpre
    clear hpre
    by_cases hlt : k < n
    · obtain ⟨a1, a2, a3, a4⟩ := h1.out.tok k (by rw [hx.out]; exact hlt)
      obtain ⟨e1, e2, e3, e4⟩ := h2.out.tok k (by rw [hy.out]; exact hlt)
      have NK := NOT.out k (by rw [hx.out]; exact hlt) (by rw [hy.out]; exact hlt)
      obtain ⟨x, hxk⟩ : ∃ x, x = xs.getD k default := ⟨_, rfl⟩
      obtain ⟨y, hyk⟩ : ∃ y, y = ys.getD k default := ⟨_, rfl⟩
      rw [← hxk] at a1 a2 a3 a4 NK
      rw [← hyk] at e1 e2 e3 e4 NK
      have HX := Lib.hid hxk
      have HY := Lib.hid hyk
      clear hxk hyk a4 e4
      obtain ⟨x1, x2, x3, x4⟩ := x
      obtain ⟨y1, y2, y3, y4⟩ := y
      simp only at a1 a2 a3 e1 e2 e3
      simp only [Tok.core] at NK
      have a1 := cell_keep hb hbel _ a1
      have a2 := cell_keep hb hbel _ a2
      have a3 := cell_keep hb hbel _ a3
      have e1 := cell_keep hb2 hbel _ e1
      have e2 := cell_keep hb2 hbel _ e2
      have e3 := cell_keep hb2 hbel _ e3
      have HB := Lib.hid hbel
      clear hbel
      have k0 : 0 ≤ (k : Int) := by omega
      have k1 : (k : Int) < (n : Int) := by omega
      by_cases g1 : x1 = y1
      · subst g1
        by_cases g2 : x2 = y2
        · subst g2
          by_cases g3 : x3 = y3
          · subst g3
            clear NK
            go_wp2
            go_quiet (fail)
            all_goals
              go_wp2
              go_roundw
              case rel => exact ⟨k + 1, by omega, by go_num, below_drewN HB.out _, fun j hj => by
                rcases Nat.lt_or_ge j k with h | h
                · exact HP.out j h
                · rw [show j = k by omega, ← HX.out, ← HY.out]; rfl⟩
              case measure => simp [intOf]; omega
          · have f1 : (x3 == y3) = false := by simpa using g3
            have f2 : (x3 != y3) = true := by simpa using g3
            have E := Lib.hid (NK (by simp [g3]))
            clear NK g3
            go_wp2
            go_quiet (fail)
            all_goals
              go_wp2
              go_ret
              rw [E.out]
              exact ⟨rfl, below_drewN HB.out _⟩
        · have f3 : (x2.toList == y2.toList) = false := by
            rw [beq_eq_false_iff_ne]
            intro h
            exact g2 (Go.WideShapes.bytes_inj (by simpa [ByteArray.toList_eq] using h))
          have f4 : (x2.toList != y2.toList) = true := by simp [bne, f3]
          have E := Lib.hid (NK (by simp [g2]))
          clear NK g2
          go_wp2
          go_quiet (fail)
          all_goals
            go_wp2
            go_ret
            rw [E.out]
            exact ⟨rfl, below_drewN HB.out _⟩
      · have f1 : (x1 == y1) = false := by simpa using g1
        have f2 : (x1 != y1) = true := by simpa using g1
        have E := Lib.hid (NK (by simp [g1]))
        clear NK g1
        go_wp2
        go_quiet (fail)
        all_goals
          go_wp2
          go_ret
          rw [E.out]
          exact ⟨rfl, below_drewN HB.out _⟩
    · have E := Lib.hid (ALL.out fun i hi => HP.out i (by rw [hx.out] at hi; omega))
      clear HP
      go_wp2
      go_ret
      rw [E.out]
      exact ⟨rfl, hbel⟩
theorem rsame_any (v1 v2 : Value) (xs ys : List Tok) (w : World) (h1 : ToksAt w v1 xs) (h2 : ToksAt w v2 ys) (hn : xs.length ≤ 1000000) : Calls Try.prog 18 #[v1, v2] w (RB (sameB xs ys) w) := by
  obtain ⟨_, p, c, rfl, _, _, hp⟩ := h1
  obtain ⟨_, q, d, rfl, _, _, hq⟩ := h2
  by_cases hl : xs.length = ys.length
  · rcases xs with _ | ⟨x, xs⟩
    · obtain rfl : ys = [] := List.eq_nil_of_length_eq_zero hl.symm
      exact rsame_zero p q c d w
    · obtain ⟨b, off, rfl, hb, hc⟩ := hp (by simp)
      obtain ⟨b2, off2, rfl, hb2, hc2⟩ := hq (by rw [← hl]; simp)
      rw [← hl]
      exact rsame_some b off b2 off2 c d _ (x :: xs) ys w (Lib.hid rfl) (Lib.hid hl.symm) hc hc2 hb hb2 hn
  · rw [same_len hl]
    exact rsame_far p q _ _ c d w hl
/-- A function that returns a list of tokens. -/
def LRet (W : World) (ts : List Tok) (e : Ending) (w' : World) : Prop := ∃ v', e = .returned v' ∧ ToksAt w' v' ts ∧ Below W.heap.size W w'
theorem own_zero (p : Option Addr) (c : Nat) (w : World) : Calls Try.prog 16 #[.slice p 0 c] w (LRet w []) := by
  rcases p with _ | a <;>
  · go_enter Try.func16, Try.ntmps16
    go_wp2
    go_ret
    exact ⟨_, rfl, ⟨rfl, _, _, rfl, Nat.le_refl _, by unfold maxLen; omega, fun h => absurd rfl h⟩, (Below.refl _ _).alloc (Nat.le_refl _) _⟩
theorem CellsIn.at {w : World} {b off : Nat} {cs : List Value} (h : CellsIn w b off cs) : ∀ j u, cs[j]? = some u → w.cell? ((⟨b, off, none⟩ : Addr).add j) = some u := by
  intro j u hj
  rw [Go.WideShapes.add_plain]
  exact h j u hj
theorem own_some (b off c : Nat) (ns : List Tok) (w : World) (hb : b < w.heap.size) (hc : Hid (CellsIn w b off (tokCells ns))) (hn : ns.length ≤ 1000000) : Calls Try.prog 16 #[.slice (some ⟨b, off, none⟩) ns.length c] w (LRet w ns) := by
  obtain ⟨i0, hi, hz0, hz1, hz2⟩ := infoTok
  have HI := Lib.hid (And.intro hi (And.intro hz0 (And.intro hz1 hz2)))
  clear hi hz0 hz1 hz2
  go_enter Try.func16, Try.ntmps16
  go_wp2_with ((at_builtin; refine wpList_append_own _ rfl _ _ 23 rfl w.heap.size 37 i0 zeroTok 4 40 Try.underlying23 HI.out.1 HI.out.2.1 HI.out.2.2.1 HI.out.2.2.2 rfl (by decide) _ 0 [] rfl (World.ownsRow_made w #[] 0 (Nat.le_refl _) (Nat.zero_le _) rfl) ⟨b, off, none⟩ ns.length c (tokCells ns) rfl (length_tokCells ns) (hc.out.kept (Below.heap_alloc _ _ b hb)).at (tokCells_one ns) (by unfold maxLen; omega) (by omega) (by simp) ?_; intro v' w3 hown' hgrow hnil; have HO3 := Lib.hid hown'; have HG := Lib.hid hgrow; clear hown' hgrow hnil))
  go_ret
  refine ⟨_, rfl, ?_, ?_⟩
  · have := SliceAt.of_owns HO3.out
    simpa [ToksAt] using this
  · exact ((Below.refl _ _).alloc (Nat.le_refl _) _).grown HG.out (by simp) fun k hk => by
      have hk' : some w.heap.size = some k := hk
      simp at hk'
      omega
theorem own_any (v : Value) (ns : List Tok) (w : World) (h : ToksAt w v ns) (hn : ns.length ≤ 1000000) : Calls Try.prog 16 #[v] w (LRet w ns) := by
  obtain ⟨_, p, c, rfl, _, _, hp⟩ := h
  rcases ns with _ | ⟨x, ns⟩
  · exact own_zero p c w
  · obtain ⟨b, off, rfl, hb, hc⟩ := hp (by simp)
    exact own_some b off c (x :: ns) w hb hc hn
/-- Tokens that aren't too many or long. -/
def fewB (ts : List Tok) : Bool := (ts.take 60).all (fun t => decide (t.text.size ≤ 300)) && decide (ts.length ≤ 60)
theorem few_not {ts : List Tok} (k : Nat) (hk : k < ts.length) (h60 : k < 60) (h : ¬ (ts.getD k default).text.size ≤ 300) : fewB ts = false := by
  rw [Bool.eq_false_iff]
  intro g
  simp only [fewB, Bool.and_eq_true, List.all_eq_true, decide_eq_true_eq] at g
  apply h
  rw [get_tok ts k hk]
  exact g.1 _ (List.mem_take_iff_getElem.2 ⟨k, by omega, rfl⟩)
theorem few_yes {ts : List Tok} (h : ∀ i, i < ts.length → i < 60 → (ts.getD i default).text.size ≤ 300) : fewB ts = decide (ts.length ≤ 60) := by
  unfold fewB
  have : (ts.take 60).all (fun t => decide (t.text.size ≤ 300)) = true := by
    rw [List.all_eq_true]
    intro t ht
    obtain ⟨i, hi, e⟩ := List.mem_take_iff_getElem.1 ht
    have := h i (by omega) (by omega)
    rw [get_tok ts i (by omega), e] at this
    simpa using this
  rw [this, Bool.true_and]
theorem few_all {ts : List Tok} (h : fewB ts = true) : ts.length ≤ 60 ∧ ∀ t ∈ ts, t.text.size ≤ 300 := by
  simp only [fewB, Bool.and_eq_true, List.all_eq_true, decide_eq_true_eq] at h
  refine ⟨h.2, fun t ht => h.1 t ?_⟩
  rwa [List.take_of_length_le h.2]
theorem few_zero (p : Option Addr) (c : Nat) (w : World) : Calls Try.prog 14 #[.slice p 0 c] w fun e w' => e = .returned (.bool true) ∧ w = w' := by
  go_enter Try.func14, Try.ntmps14
  go_wp2
  refine wp_loop_rounds 1 ?_
  rw [rounds_succ]
  go_wp2
  go_ret
  exact ⟨rfl, rfl⟩
set_option maxHeartbeats 1000000 in
theorem few_some (b off c n : Nat) (ts : List Tok) (w : World) (hx : Hid (ts.length = n)) (h1 : Hid (CellsIn w b off (tokCells ts))) (hn : n ≤ maxLen) :
    Calls Try.prog 14 #[.slice (some ⟨b, off, none⟩) n c] w fun e w' => e = .returned (.bool (fewB ts)) ∧ w = w' := by
  have NOT := Lib.hid (fun k a b c => @few_not ts k a b c)
  have ALL := Lib.hid (@few_yes ts)
  generalize fewB ts = r at *
  unfold maxLen at hn
  go_enter Try.func14, Try.ntmps14
  go_wp2
  go_loop [3] (fun i => ∃ k : Nat, k ≤ n ∧ k ≤ 60 ∧ i = .int .i64 k ∧ ∀ j, j < k → (ts.getD j default).text.size ≤ 300) (fun i => n - (intOf i).toNat)
  case atStart => exact ⟨0, Nat.zero_le _, by omega, rfl, fun j hj => by omega⟩
  case round =>
    obtain ⟨k, hk, hk60, rfl, hpre⟩ := hrel
    have HP := Lib.hid hpre
    clear hpre
    by_cases hlt : k < n
    · by_cases h60 : k < 60
      · obtain ⟨a1, a2, a3, a4⟩ := h1.out.tok k (by rw [hx.out]; exact hlt)
        have NK := NOT.out k (by rw [hx.out]; exact hlt) h60
        obtain ⟨x, hxk⟩ : ∃ x, x = ts.getD k default := ⟨_, rfl⟩
        rw [← hxk] at a1 a2 a3 a4 NK
        have HX := Lib.hid hxk
        clear hxk
        obtain ⟨x1, x2, x3, x4⟩ := x
        simp only at a1 a2 a3 a4 NK
        by_cases g : x2.size ≤ 300
        · have G := Lib.hid g
          have g' : decide ((300 : Int) < (x2.size : Int)) = false := by simp; omega
          clear NK g
          go_wp2
          go_round
          case rel => exact ⟨k + 1, by omega, by omega, by go_num, fun j hj => by
            rcases Nat.lt_or_ge j k with h | h
            · exact HP.out j h
            · rw [show j = k by omega, ← HX.out]; exact G.out⟩
          case measure => simp [intOf]; omega
        · have E := Lib.hid (NK g)
          have g' : decide ((300 : Int) < (x2.size : Int)) = true := by simp; omega
          clear NK g
          go_wp2
          go_ret
          exact ⟨ret_bool E.out.symm, rfl⟩
      · have e := ALL.out fun i hi h => HP.out i (by omega)
        rw [hx.out, show decide (n ≤ 60) = decide ((n : Int) ≤ 60) by rw [Bool.eq_iff_iff]; simp only [decide_eq_true_eq]; omega] at e
        have E := Lib.hid e
        have g' : decide ((k : Int) < 60) = false := by simp; omega
        clear HP e
        go_wp2
        go_ret
        exact ⟨ret_bool E.out.symm, rfl⟩
    · have e := ALL.out fun i hi h => HP.out i (by rw [hx.out] at hi; omega)
      rw [hx.out, show decide (n ≤ 60) = decide ((n : Int) ≤ 60) by rw [Bool.eq_iff_iff]; simp only [decide_eq_true_eq]; omega] at e
      have E := Lib.hid e
      clear HP e
      go_wp2
      go_ret
      exact ⟨ret_bool E.out.symm, rfl⟩
theorem few_any (v : Value) (ts : List Tok) (w : World) (h : ToksAt w v ts) : Calls Try.prog 14 #[v] w fun e w' => e = .returned (.bool (fewB ts)) ∧ w = w' := by
  have hle := h.le
  obtain ⟨_, p, c, rfl, _, _, hp⟩ := h
  rcases ts with _ | ⟨x, ts⟩
  · exact few_zero p c w
  · obtain ⟨b, off, rfl, hb, hc⟩ := hp (by simp)
    exact few_some b off c _ (x :: ts) w (Lib.hid rfl) hc hle
end Go.Proofs.Ytgcojmjllpjefaa
