/- The contracts of own and few (the laws'), Same and Row (the document's); two fixities compared. -/
import Derived.Test.YtkmgapieoedelaaFixK
import Derived.Laws.StructEq
namespace Go.Proofs.Ytkmgapieoedelaa
open Go.Shelf Go.RowKit Go.Lib Go.Sort Go.Proofs.FixMath

theorem equal_fix (x y : Fx) (w : World) : (Op.equalIn 10000 24 (.agg #[.string x.op, .int .i64 x.level, .int .i64 x.side]) (.agg #[.string y.op, .int .i64 y.level, .int .i64 y.side])).run Try.prog w = .ok (decide (x = y)) w := by
  have u3 := Try.underlying3
  have a3 := Try.isAgg3
  have z3 := Try.sizeOf3
  have u9 := Try.underlying9
  have a9 := Try.isAgg9
  have z9 := Try.sizeOf9
  have hS : Try.prog.underlying 24 = some (.struct (Try.prog.fieldsOf 24)) := by kernel_rfl
  have hp : Try.prog.stoodInHeld 24 = false := by kernel_rfl
  rw [show (10000 : Nat) = 9999 + 1 from rfl, run_equalIn_agg w 9999 24 _ _ hS hp]
  simp only [Program.fieldsOf, Try.underlying24]
  go_simp
  obtain ⟨a, b, c⟩ := x
  obtain ⟨a', b', c'⟩ := y
  simp only [Fx.mk.injEq]
  by_cases h1 : a = a'
  · have e : (a.toList == a'.toList) = true := by rw [bytes_beq]; simpa using h1
    by_cases h2 : b = b' <;> by_cases h3 : c = c' <;> simp [h1, h2, h3]
  · have e : (a.toList == a'.toList) = false := by rw [bytes_beq]; simpa using h1
    have e' : ¬ a.toList = a'.toList := by simpa using e
    simp [h1, e']
theorem neq_fix (x y : Fx) (w : World) : (binOp .neq 24 (.agg #[.string x.op, .int .i64 x.level, .int .i64 x.side]) (.agg #[.string y.op, .int .i64 y.level, .int .i64 y.side])).run Try.prog w = .ok (.bool (!decide (x = y))) w := by
  rw [run_neq_struct, equal_fix]; rfl
theorem eql_fix (x y : Fx) (w : World) : (binOp .eql 24 (.agg #[.string x.op, .int .i64 x.level, .int .i64 x.side]) (.agg #[.string y.op, .int .i64 y.level, .int .i64 y.side])).run Try.prog w = .ok (.bool (decide (x = y))) w := by
  rw [run_eql_struct, equal_fix]; rfl
theorem guard_fix (op : BinOp) (a b : Operand) (x y : Array Value) (w : World) : (eqGuard op 24 a b (.agg x) (.agg y)).run Try.prog w = .ok () w := run_eqGuard_agg w op 24 a b x y (by kernel_rfl)

theorem own_zero (p : Option Addr) (c : Nat) (w : World) : Calls Try.prog 13 #[.slice p 0 c] w (NRet w []) := by
  rcases p with _ | a <;>
  · go_enter Try.func13, Try.ntmps13
    go_wp2
    go_ret
    exact ⟨_, rfl, ⟨rfl, _, _, rfl, Nat.le_refl _, by unfold maxLen; omega, fun h => absurd rfl h⟩, (Below.refl _ _).alloc (Nat.le_refl _) _⟩
theorem own_some (b off c : Nat) (ns : List Fx) (w : World) (hb : b < w.heap.size) (hc : Hid (CellsIn w b off (fxCells ns))) (hn : ns.length ≤ 1000000) : Calls Try.prog 13 #[.slice (some ⟨b, off, none⟩) ns.length c] w (NRet w ns) := by
  obtain ⟨i0, hi, hz0, hz1, hz2⟩ := infoFix
  have HI := Lib.hid (And.intro hi (And.intro hz0 (And.intro hz1 hz2)))
  clear hi hz0 hz1 hz2
  go_enter Try.func13, Try.ntmps13
  go_wp2_with ((at_builtin; refine wpList_append_own _ rfl _ _ 22 rfl w.heap.size 24 i0 zeroFix 3 32 Try.underlying22 HI.out.1 HI.out.2.1 HI.out.2.2.1 HI.out.2.2.2 rfl (by decide) _ 0 [] rfl (World.ownsRow_made w #[] 0 (Nat.le_refl _) (Nat.zero_le _) rfl) ⟨b, off, none⟩ ns.length c (fxCells ns) rfl (length_fxCells ns) (hc.out.kept (Below.heap_alloc _ _ b hb)).at (fxCells_one ns) (by unfold maxLen; omega) (by omega) (by simp) ?_; intro v' w3 hown' hgrow hnil; have HO3 := Lib.hid hown'; have HG := Lib.hid hgrow; clear hown' hgrow hnil))
  go_ret
  refine ⟨_, rfl, ?_, ?_⟩
  · have := SliceAt.of_owns HO3.out
    simpa [FixAt] using this
  · exact ((Below.refl _ _).alloc (Nat.le_refl _) _).grown HG.out (by simp) fun k hk => by
      have hk' : some w.heap.size = some k := hk
      simp at hk'
      omega
theorem own_any (v : Value) (ns : List Fx) (w : World) (h : FixAt w v ns) (hn : ns.length ≤ 1000000) : Calls Try.prog 13 #[v] w (NRet w ns) := by
  obtain ⟨_, p, c, rfl, _, _, hp⟩ := h
  rcases ns with _ | ⟨x, ns⟩
  · exact own_zero p c w
  · obtain ⟨b, off, rfl, hb, hc⟩ := hp (by simp)
    exact own_some b off c (x :: ns) w hb hc hn

theorem get_fx {ts : List Fx} (i : Nat) (h : i < ts.length) : ts.getD i default = ts[i] := by rw [List.getD_eq_getElem?_getD, List.getElem?_eq_getElem h, Option.getD_some]
theorem get_str {ts : List ByteArray} (i : Nat) (h : i < ts.length) : ts.getD i default = ts[i] := by rw [List.getD_eq_getElem?_getD, List.getElem?_eq_getElem h, Option.getD_some]
/-- Fixities, and operators, that aren't too many or long. -/
def fewB (fs : List Fx) (ss : List ByteArray) : Bool := (fs.take 420).all (fun f => decide (f.op.size ≤ 100)) && (ss.take 420).all (fun s => decide (s.size ≤ 100)) && (decide (fs.length ≤ 420) && decide (ss.length ≤ 420))
theorem few_not1 {fs : List Fx} {ss : List ByteArray} (k : Nat) (hk : k < fs.length) (h6 : k < 420) (h : ¬ (fs.getD k default).op.size ≤ 100) : fewB fs ss = false := by
  rw [Bool.eq_false_iff]
  intro g
  simp only [fewB, Bool.and_eq_true, List.all_eq_true, decide_eq_true_eq] at g
  apply h
  rw [get_fx k hk]
  exact g.1.1 _ (List.mem_take_iff_getElem.2 ⟨k, by omega, rfl⟩)
theorem few_not2 {fs : List Fx} {ss : List ByteArray} (k : Nat) (hk : k < ss.length) (h6 : k < 420) (h : ¬ (ss.getD k default).size ≤ 100) : fewB fs ss = false := by
  rw [Bool.eq_false_iff]
  intro g
  simp only [fewB, Bool.and_eq_true, List.all_eq_true, decide_eq_true_eq] at g
  apply h
  rw [get_str k hk]
  exact g.1.2 _ (List.mem_take_iff_getElem.2 ⟨k, by omega, rfl⟩)
theorem few_yes {fs : List Fx} {ss : List ByteArray} (h : ∀ i, i < fs.length → i < 420 → (fs.getD i default).op.size ≤ 100) (h' : ∀ i, i < ss.length → i < 420 → (ss.getD i default).size ≤ 100) : fewB fs ss = (decide (fs.length ≤ 420) && decide (ss.length ≤ 420)) := by
  unfold fewB
  have a : (fs.take 420).all (fun f => decide (f.op.size ≤ 100)) = true := by
    rw [List.all_eq_true]
    intro t ht
    obtain ⟨i, hi, e⟩ := List.mem_take_iff_getElem.1 ht
    have := h i (by omega) (by omega)
    rw [get_fx i (by omega), e] at this
    simpa using this
  have b : (ss.take 420).all (fun s => decide (s.size ≤ 100)) = true := by
    rw [List.all_eq_true]
    intro t ht
    obtain ⟨i, hi, e⟩ := List.mem_take_iff_getElem.1 ht
    have := h' i (by omega) (by omega)
    rw [get_str i (by omega), e] at this
    simpa using this
  rw [a, b, Bool.true_and, Bool.true_and]
theorem few_all {fs : List Fx} {ss : List ByteArray} (h : fewB fs ss = true) : fs.length ≤ 420 ∧ ss.length ≤ 420 ∧ (∀ f ∈ fs, f.op.size ≤ 100) ∧ ∀ s ∈ ss, s.size ≤ 100 := by
  simp only [fewB, Bool.and_eq_true, List.all_eq_true, decide_eq_true_eq] at h
  refine ⟨h.2.1, h.2.2, fun t ht => h.1.1 t ?_, fun t ht => h.1.2 t ?_⟩
  · rwa [List.take_of_length_le h.2.1]
  · rwa [List.take_of_length_le h.2.2]
theorem fix_at {w : World} {p : Option Addr} {n c : Nat} {fs : List Fx} (h : FixAt w (.slice p n c) fs) (h0 : 0 < n) : ∃ b off, p = some ⟨b, off, none⟩ ∧ b < w.heap.size ∧ CellsIn w b off (fxCells fs) := by
  obtain ⟨_, p', c', hv, _, _, hh⟩ := h
  simp only [Value.slice.injEq] at hv
  obtain ⟨rfl, rfl, rfl⟩ := hv
  exact hh (by omega)
theorem ints_at {w : World} {p : Option Addr} {n c : Nat} {fs : List Int} (h : IntsAt w (.slice p n c) fs) (h0 : 0 < n) : ∃ b off, p = some ⟨b, off, none⟩ ∧ b < w.heap.size ∧ CellsIn w b off (intCells fs) := by
  obtain ⟨_, p', c', hv, _, _, hh⟩ := h
  simp only [Value.slice.injEq] at hv
  obtain ⟨rfl, rfl, rfl⟩ := hv
  exact hh (by omega)
theorem strs_at {w : World} {p : Option Addr} {n c : Nat} {fs : List ByteArray} (h : StrsAt w (.slice p n c) fs) (h0 : 0 < n) : ∃ b off, p = some ⟨b, off, none⟩ ∧ b < w.heap.size ∧ CellsIn w b off (strCells fs) := by
  obtain ⟨_, p', c', hv, _, _, hh⟩ := h
  simp only [Value.slice.injEq] at hv
  obtain ⟨rfl, rfl, rfl⟩ := hv
  exact hh (by omega)
theorem strs_form {w : World} {v : Value} {ns : List ByteArray} (h : StrsAt w v ns) : ∃ p c, v = .slice p ns.length c := by
  obtain ⟨_, p, cap, h1, _⟩ := h
  exact ⟨p, cap, h1⟩
set_option maxRecDepth 100000 in
set_option maxHeartbeats 1000000 in
theorem few_go (p q : Option Addr) (c d n m : Nat) (fs : List Fx) (ss : List ByteArray) (w : World) (hx : Hid (fs.length = n)) (hy : Hid (ss.length = m)) (h1 : Hid (FixAt w (.slice p n c) fs)) (h2 : Hid (StrsAt w (.slice q m d) ss)) (hn : n ≤ maxLen) (hm : m ≤ maxLen) :
    Calls Try.prog 11 #[.slice p n c, .slice q m d] w fun e w' => e = .returned (.bool (fewB fs ss)) ∧ w = w' := by
  have N1 := Lib.hid (fun k a b c => @few_not1 fs ss k a b c)
  have N2 := Lib.hid (fun k a b c => @few_not2 fs ss k a b c)
  have ALL := Lib.hid (@few_yes fs ss)
  generalize fewB fs ss = r at *
  have HN := Lib.hid hn
  have HM := Lib.hid hm
  clear hn hm
  go_enter Try.func11, Try.ntmps11
  go_wp2
  go_loop [5] (fun i => ∃ k : Nat, k ≤ n ∧ k ≤ 420 ∧ i = .int .i64 k ∧ ∀ j, j < k → (fs.getD j default).op.size ≤ 100) (fun i => n - (intOf i).toNat)
  case atStart => exact ⟨0, Nat.zero_le _, by omega, rfl, fun j hj => by omega⟩
  case round =>
    obtain ⟨k, hk, hk60, rfl, hpre⟩ := hrel
    have HP := Lib.hid hpre
    clear hpre
    have second : ∀ (K : Nat), (n ≤ K ∨ 420 ≤ K) → (∀ j, j < K → (fs.getD j default).op.size ≤ 100) → Hid (∀ i, i < fs.length → i < 420 → (fs.getD i default).op.size ≤ 100) := fun K hK h => Lib.hid fun i hi h4 => h i (by rw [hx.out] at hi; omega)
    by_cases hgo : k < n ∧ k < 420
    · obtain ⟨hlt, h60⟩ := hgo
      clear second
      obtain ⟨b, off, rfl, hb, hc⟩ := fix_at h1.out (by omega)
      obtain ⟨a1, a2, a3⟩ := hc.fx k (by rw [hx.out]; exact hlt)
      have NK := N1.out k (by rw [hx.out]; exact hlt) h60
      obtain ⟨x, hxk⟩ : ∃ x, x = fs.getD k default := ⟨_, rfl⟩
      rw [← hxk] at a1 a2 a3 NK
      have HX := Lib.hid hxk
      clear hxk hc
      obtain ⟨x1, x2, x3⟩ := x
      simp only at a1 a2 a3 NK
      by_cases g : x1.size ≤ 100
      · have G := Lib.hid g
        have g' : decide ((100 : Int) < (x1.size : Int)) = false := by simp; omega
        clear NK g
        go_wp2
        go_round
        case rel => exact ⟨k + 1, by omega, by omega, by go_num, fun j hj => by
          rcases Nat.lt_or_ge j k with h | h
          · exact HP.out j h
          · rw [show j = k by omega, ← HX.out]; exact G.out⟩
        case measure => simp [intOf]; omega
      · have E := Lib.hid (NK g)
        have g' : decide ((100 : Int) < (x1.size : Int)) = true := by simp; omega
        clear NK g
        go_wp2
        go_ret
        exact ⟨by rw [E.out]; rfl, rfl⟩
    · have S1 := second k (by omega) HP.out
      clear second
      have hgo' : ¬ k < n ∨ (k < n ∧ ¬ k < 420) := by omega
      clear hgo
      rcases hgo' with hlt | ⟨hlt, h60⟩
      all_goals
        go_wp2
        go_loop [6] (fun i => ∃ k : Nat, k ≤ m ∧ k ≤ 420 ∧ i = .int .i64 k ∧ ∀ j, j < k → (ss.getD j default).size ≤ 100) (fun i => m - (intOf i).toNat)
        case atStart => exact ⟨0, Nat.zero_le _, by omega, rfl, fun j hj => by omega⟩
        case round =>
          obtain ⟨j, hj, hj60, rfl, hpre2⟩ := hrel
          have HQ := Lib.hid hpre2
          clear hpre2
          by_cases hgo2 : j < m ∧ j < 420
          · obtain ⟨hlt2, h602⟩ := hgo2
            obtain ⟨b, off, rfl, hb, hc⟩ := strs_at h2.out (by omega)
            have a1 := hc.str j (by rw [hy.out]; exact hlt2)
            have NK := N2.out j (by rw [hy.out]; exact hlt2) h602
            obtain ⟨x, hxk⟩ : ∃ x, x = ss.getD j default := ⟨_, rfl⟩
            rw [← hxk] at a1 NK
            have HX := Lib.hid hxk
            clear hxk hc
            by_cases g : x.size ≤ 100
            · have G := Lib.hid g
              have g' : decide ((100 : Int) < (x.size : Int)) = false := by simp; omega
              clear NK g
              go_wp2
              go_round
              case rel => exact ⟨j + 1, by omega, by omega, by go_num, fun i hi => by
                rcases Nat.lt_or_ge i j with h | h
                · exact HQ.out i h
                · rw [show i = j by omega, ← HX.out]; exact G.out⟩
              case measure => simp [intOf]; omega
            · have E := Lib.hid (NK g)
              have g' : decide ((100 : Int) < (x.size : Int)) = true := by simp; omega
              clear NK g
              go_wp2
              go_ret
              exact ⟨by rw [E.out]; rfl, rfl⟩
          · have S2 := Lib.hid (fun i (hi : i < ss.length) (h4 : i < 420) => HQ.out i (by rw [hy.out] at hi; omega))
            have E := Lib.hid (ALL.out S1.out S2.out)
            have hgo3 : ¬ j < m ∨ (j < m ∧ ¬ j < 420) := by omega
            clear hgo2
            by_cases n4 : n ≤ 420 <;> by_cases m4 : m ≤ 420
            all_goals
              rcases hgo3 with hlt2 | ⟨hlt2, h602⟩
              all_goals (try (exfalso; omega))
              all_goals
                have E2 : Hid (r = (decide (n ≤ 420) && decide (m ≤ 420))) := Lib.hid (by have := E.out; rw [hx.out, hy.out] at this; exact this)
                clear E
                (first | (have i1 : decide ((n : Int) ≤ 420) = true := by simp; omega) | (have i1 : decide ((n : Int) ≤ 420) = false := by simp; omega))
                (first | (have i2 : decide ((m : Int) ≤ 420) = true := by simp; omega) | (have i2 : decide ((m : Int) ≤ 420) = false := by simp; omega))
                go_wp2
                go_ret
                exact ⟨by rw [E2.out]; simp [n4, m4], rfl⟩
theorem few_any (v u : Value) (fs : List Fx) (ss : List ByteArray) (w : World) (h1 : FixAt w v fs) (h2 : StrsAt w u ss) : Calls Try.prog 11 #[v, u] w fun e w' => e = .returned (.bool (fewB fs ss)) ∧ w = w' := by
  obtain ⟨p, c, rfl⟩ := fix_form h1
  obtain ⟨q, d, rfl⟩ := strs_form h2
  exact few_go p q c d _ _ fs ss w (Lib.hid rfl) (Lib.hid rfl) (Lib.hid h1) (Lib.hid h2) h1.le h2.le
theorem rsame_not {xs ys : List Fx} (k : Nat) (_hk : k < xs.length) (h : ¬ xs.getD k default = ys.getD k default) : decide (xs = ys) = false := by
  rw [decide_eq_false_iff_not]
  intro e
  exact h (by rw [e])
theorem rsame_all {xs ys : List Fx} (hl : xs.length = ys.length) (h : ∀ k, k < xs.length → xs.getD k default = ys.getD k default) : decide (xs = ys) = true := by
  rw [decide_eq_true_iff]
  refine List.ext_getElem hl fun k h1 h2 => ?_
  have := h k h1
  rw [List.getD_eq_getElem?_getD, List.getD_eq_getElem?_getD, List.getElem?_eq_getElem h1, List.getElem?_eq_getElem h2] at this
  exact this
theorem rsame_far (p q : Option Addr) (n m c d : Nat) (w : World) (h : ¬ n = m) : Calls Try.prog 21 #[.slice p n c, .slice q m d] w (RB false w) := by
  have h2 : ((n : Int) != (m : Int)) = true := by simp; omega
  have h3 : ((n : Int) == (m : Int)) = false := by simp; omega
  clear h
  go_enter Try.func21, Try.ntmps21
  go_wp2
  go_ret
  exact ⟨rfl, Below.refl _ _⟩
set_option maxRecDepth 100000 in
set_option maxHeartbeats 4000000 in
theorem rsame_go (p q : Option Addr) (c d n : Nat) (xs ys : List Fx) (w : World) (hx : Hid (xs.length = n)) (hy : Hid (ys.length = n)) (h1 : Hid (FixAt w (.slice p n c) xs)) (h2 : Hid (FixAt w (.slice q n d) ys)) (hn : n ≤ 1000000) :
    Calls Try.prog 21 #[.slice p n c, .slice q n d] w (RB (decide (xs = ys)) w) := by
  have NOT := Lib.hid (fun k a b => @rsame_not xs ys k a b)
  have ALL := Lib.hid (@rsame_all xs ys (hx.out.trans hy.out.symm))
  generalize decide (xs = ys) = r at *
  go_enter Try.func21, Try.ntmps21
  go_wp2
  go_loopw [5] (fun i wr => ∃ k : Nat, k ≤ n ∧ i = .int .i64 k ∧ Below w.heap.size w wr ∧ ∀ j, j < k → xs.getD j default = ys.getD j default) (fun i _ => n - (intOf i).toNat)
  case atStart => exact ⟨0, Nat.zero_le _, rfl, Below.refl _ _, fun j hj => by omega⟩
  case round =>
    obtain ⟨wo, hwo⟩ : ∃ wo : World, wo = wr := ⟨_, rfl⟩
    subst hwo
    obtain ⟨k, hk, rfl, hbel, hpre⟩ := hrel
    have HP := Lib.hid hpre
    clear hpre
    by_cases hlt : k < n
    · obtain ⟨b, off, rfl, hb, hc⟩ := fix_at h1.out (by omega)
      obtain ⟨b2, off2, rfl, hb2, hc2⟩ := fix_at h2.out (by omega)
      obtain ⟨a1, a2, a3⟩ := (hc.below hb hbel).fx k (by rw [hx.out]; exact hlt)
      obtain ⟨e1, e2, e3⟩ := (hc2.below hb2 hbel).fx k (by rw [hy.out]; exact hlt)
      obtain ⟨x, hxk⟩ : ∃ x, x = xs.getD k default := ⟨_, rfl⟩
      obtain ⟨y, hyk⟩ : ∃ y, y = ys.getD k default := ⟨_, rfl⟩
      rw [← hxk] at a1 a2 a3
      rw [← hyk] at e1 e2 e3
      have HX := Lib.hid hxk
      have HY := Lib.hid hyk
      have HB := Lib.hid hbel
      clear hxk hyk hbel hc hc2
      have NK := Lib.hid (fun h => NOT.out k (by rw [hx.out]; exact hlt) (by rw [← HX.out, ← HY.out]; exact h))
      have hq := fun w => neq_fix x y w
      have hgd := fun op a b w => guard_fix op a b #[.string x.op, .int .i64 x.level, .int .i64 x.side] #[.string y.op, .int .i64 y.level, .int .i64 y.side] w
      obtain ⟨dd, hdd⟩ : ∃ dd, dd = decide (x = y) := ⟨_, rfl⟩
      rw [← hdd] at hq
      have HD := Lib.hid hdd
      clear hdd
      have hxy : Hid (dd = true → x = y) := Lib.hid fun h => by rw [HD.out] at h; simpa using h
      have hxn : Hid (dd = false → ¬ x = y) := Lib.hid fun h => by rw [HD.out] at h; simpa using h
      obtain ⟨x0, x1, x2⟩ := x
      obtain ⟨y0, y1, y2⟩ := y
      simp only at a1 a2 a3 e1 e2 e3 hq hgd
      clear HD
      have k0 : 0 ≤ (k : Int) := by omega
      have k1 : (k : Int) < (n : Int) := by omega
      cases dd
      · have E := Lib.hid (NK.out (hxn.out rfl))
        clear NK
        go_wp2
        go_quiet (fail)
        all_goals
          go_wp2
          go_ret
          rw [E.out]
          exact ⟨rfl, below_drewN HB.out _⟩
      · have E := Lib.hid (hxy.out rfl)
        clear NK
        go_wp2
        go_quiet (fail)
        all_goals
          go_wp2
          go_roundw
          case rel => exact ⟨k + 1, by omega, by go_num, below_drewN HB.out _, fun j hj => by
            rcases Nat.lt_or_ge j k with h | h
            · exact HP.out j h
            · rw [show j = k by omega, ← HX.out, ← HY.out]; exact E.out⟩
          case measure => simp [intOf]; omega
    · have E := Lib.hid (ALL.out fun i hi => HP.out i (by rw [hx.out] at hi; omega))
      clear HP
      go_wp2
      go_ret
      rw [E.out]
      exact ⟨rfl, hbel⟩
theorem rsame_any (v1 v2 : Value) (xs ys : List Fx) (w : World) (h1 : FixAt w v1 xs) (h2 : FixAt w v2 ys) (hn : xs.length ≤ 1000000) : Calls Try.prog 21 #[v1, v2] w (RB (decide (xs = ys)) w) := by
  obtain ⟨p, c, rfl⟩ := fix_form h1
  obtain ⟨q, d, rfl⟩ := fix_form h2
  by_cases hl : xs.length = ys.length
  · rw [← hl] at h2 ⊢
    exact rsame_go p q c d _ xs ys w (Lib.hid rfl) (Lib.hid hl.symm) (Lib.hid h1) (Lib.hid h2) hn
  · rw [show decide (xs = ys) = false by rw [decide_eq_false_iff_not]; intro e; exact hl (by rw [e])]
    exact rsame_far p q _ _ c d w hl
theorem row_not {xs ys : List Int} (k : Nat) (_hk : k < xs.length) (h : ¬ xs.getD k 0 = ys.getD k 0) : decide (xs = ys) = false := by
  rw [decide_eq_false_iff_not]
  intro e
  exact h (by rw [e])
theorem row_all {xs ys : List Int} (hl : xs.length = ys.length) (h : ∀ k, k < xs.length → xs.getD k 0 = ys.getD k 0) : decide (xs = ys) = true := by
  rw [decide_eq_true_iff]
  refine List.ext_getElem hl fun k h1 h2 => ?_
  have := h k h1
  rw [List.getD_eq_getElem?_getD, List.getD_eq_getElem?_getD, List.getElem?_eq_getElem h1, List.getElem?_eq_getElem h2] at this
  exact this
theorem row_far (p q : Option Addr) (n m c d : Nat) (w : World) (h : ¬ n = m) : Calls Try.prog 24 #[.slice p n c, .slice q m d] w (RB false w) := by
  have h2 : ((n : Int) != (m : Int)) = true := by simp; omega
  have h3 : ((n : Int) == (m : Int)) = false := by simp; omega
  clear h
  go_enter Try.func24, Try.ntmps24
  go_wp2
  go_ret
  exact ⟨rfl, Below.refl _ _⟩
set_option maxRecDepth 100000 in
set_option maxHeartbeats 4000000 in
theorem row_go (p q : Option Addr) (c d n : Nat) (xs ys : List Int) (w : World) (hx : Hid (xs.length = n)) (hy : Hid (ys.length = n)) (h1 : Hid (IntsAt w (.slice p n c) xs)) (h2 : Hid (IntsAt w (.slice q n d) ys)) (hn : n ≤ 1000000) :
    Calls Try.prog 24 #[.slice p n c, .slice q n d] w (RB (decide (xs = ys)) w) := by
  have NOT := Lib.hid (fun k a b => @row_not xs ys k a b)
  have ALL := Lib.hid (@row_all xs ys (hx.out.trans hy.out.symm))
  generalize decide (xs = ys) = r at *
  go_enter Try.func24, Try.ntmps24
  go_wp2
  go_loopw [5] (fun i wr => ∃ k : Nat, k ≤ n ∧ i = .int .i64 k ∧ Below w.heap.size w wr ∧ ∀ j, j < k → xs.getD j 0 = ys.getD j 0) (fun i _ => n - (intOf i).toNat)
  case atStart => exact ⟨0, Nat.zero_le _, rfl, Below.refl _ _, fun j hj => by omega⟩
  case round =>
    obtain ⟨wo, hwo⟩ : ∃ wo : World, wo = wr := ⟨_, rfl⟩
    subst hwo
    obtain ⟨k, hk, rfl, hbel, hpre⟩ := hrel
    have HP := Lib.hid hpre
    clear hpre
    by_cases hlt : k < n
    · obtain ⟨b, off, rfl, hb, hc⟩ := ints_at h1.out (by omega)
      obtain ⟨b2, off2, rfl, hb2, hc2⟩ := ints_at h2.out (by omega)
      have a1 := (hc.below hb hbel).int k (by rw [hx.out]; exact hlt)
      have e1 := (hc2.below hb2 hbel).int k (by rw [hy.out]; exact hlt)
      obtain ⟨x, hxk⟩ : ∃ x, x = xs.getD k 0 := ⟨_, rfl⟩
      obtain ⟨y, hyk⟩ : ∃ y, y = ys.getD k 0 := ⟨_, rfl⟩
      rw [← hxk] at a1
      rw [← hyk] at e1
      have HX := Lib.hid hxk
      have HY := Lib.hid hyk
      have HB := Lib.hid hbel
      clear hxk hyk hbel hc hc2
      have NK := Lib.hid (fun h => NOT.out k (by rw [hx.out]; exact hlt) (by rw [← HX.out, ← HY.out]; exact h))
      obtain ⟨dd, hdd⟩ : ∃ dd, dd = decide (x = y) := ⟨_, rfl⟩
      have hxy : Hid (dd = true → x = y) := Lib.hid fun h => by rw [hdd] at h; simpa using h
      have hxn : Hid (dd = false → ¬ x = y) := Lib.hid fun h => by rw [hdd] at h; simpa using h
      have hd1 : (x == y) = dd := by rw [hdd]; rfl
      have hd2 : (x != y) = !dd := by rw [← hd1]; rfl
      clear hdd
      have k0 : 0 ≤ (k : Int) := by omega
      have k1 : (k : Int) < (n : Int) := by omega
      cases dd
      · have E := Lib.hid (NK.out (hxn.out rfl))
        clear NK
        go_wp2
        go_quiet (fail)
        all_goals
          go_wp2
          go_ret
          rw [E.out]
          exact ⟨rfl, below_drewN HB.out _⟩
      · have E := Lib.hid (hxy.out rfl)
        clear NK
        go_wp2
        go_quiet (fail)
        all_goals
          go_wp2
          go_roundw
          case rel => exact ⟨k + 1, by omega, by go_num, below_drewN HB.out _, fun j hj => by
            rcases Nat.lt_or_ge j k with h | h
            · exact HP.out j h
            · rw [show j = k by omega, ← HX.out, ← HY.out]; exact E.out⟩
          case measure => simp [intOf]; omega
    · have E := Lib.hid (ALL.out fun i hi => HP.out i (by rw [hx.out] at hi; omega))
      clear HP
      go_wp2
      go_ret
      rw [E.out]
      exact ⟨rfl, hbel⟩
theorem row_any (v1 v2 : Value) (xs ys : List Int) (w : World) (h1 : IntsAt w v1 xs) (h2 : IntsAt w v2 ys) (hn : xs.length ≤ 1000000) : Calls Try.prog 24 #[v1, v2] w (RB (decide (xs = ys)) w) := by
  obtain ⟨p, c, rfl⟩ := ints_form h1
  obtain ⟨q, d, rfl⟩ := ints_form h2
  by_cases hl : xs.length = ys.length
  · rw [← hl] at h2 ⊢
    exact row_go p q c d _ xs ys w (Lib.hid rfl) (Lib.hid hl.symm) (Lib.hid h1) (Lib.hid h2) hn
  · rw [show decide (xs = ys) = false by rw [decide_eq_false_iff_not]; intro e; exact hl (by rw [e])]
    exact row_far p q _ _ c d w hl
end Go.Proofs.Ytkmgapieoedelaa
