/- The walk of LexJoins. -/
import Derived.Test.YtgcojmjllpjefaaAwake
import Derived.Deep.AppendSrc
namespace Go
theorem wpList_append_view_if {P : Program} (w : World) {ops : Array Oper} {rest : List Oper} {o : Oper} {a : Act} {Q : Exit → Act → World → Prop} (hgd : Region.wanted o (yielded ops a.tmps) = true) (s x : Operand) (t : TypeId)
    (ho : o.op = .call { callee := .builtin .append, args := #[s, x], argTypes := #[t, t] })
    (base : Nat) (e : TypeId) (i : TypeInfo) (z : Value) (size bytes : Nat) (ht : P.underlying t = some (.slice e)) (hi : P.info? e = some i) (hz : i.zero = some z)
    (hsize : i.size = size) (hby : i.bytes = bytes) (hzs : z.cells.size = size) (hsz : 0 < size)
    (g n cap : Nat) (xs : List Value) (hs : a.eval s = .slice (some ⟨g, 0, none⟩) n cap) (hown : w.ownsRow base e size (.slice (some ⟨g, 0, none⟩) n cap) n xs)
    (q : Option Addr) (m c : Nat) (news : List Value) (hx : a.eval x = .slice q m c) (hl : news.length = m * size) (hq : m ≠ 0 → ∃ ad, q = some ad ∧ ∀ j u, news[j]? = some u → w.cell? (ad.add j) = some u) (h1 : ∀ u ∈ news, u.oneCell' = true)
    (h63 : n + m ≤ maxLen) (hbytes : (n + m) * bytes ≤ 140737488355328) (hbase : base ≤ w.heap.size)
    (h : ∀ v' w', w'.ownsRow base e size v' (n + m) (xs ++ news) → w.grownBy w' (some g) → (∃ g' cap', v' = .slice (some ⟨g', 0, none⟩) (n + m) cap') → wpList P ops Q rest (a.put o.dst v') w') : wpList P ops Q (o :: rest) a w := by
  by_cases h0 : m = 0
  · subst h0
    obtain rfl : news = [] := List.eq_nil_of_length_eq_zero (by rw [hl]; simp)
    have hsrc : Src P i.size t (.slice q 0 c) 0 [] w := by
      cases q with
      | none => exact Src.ofNil w ht c
      | some ad => exact Src.ofSlice w ht ad 0 c [] (by simp) (by simp) (by simp)
    have hcap : n + 0 ≤ cap := by
      rcases hown.2 with ⟨hh, _⟩ | ⟨g2, cap2, cur, hv, _, _, hn, _⟩
      · simp at hh
      · simp only [Value.slice.injEq] at hv
        omega
    have hr := run_append_room_src (P := P) w t t o.type e i ht hi g 0 n cap (.slice q 0 c) 0 [] hsrc hcap (by simp) (by simp)
    refine wpList_step fun K hK => ?_
    rw [if_pos hgd]
    have h3 := h (.slice (some ⟨g, 0, none⟩) (n + 0) cap) w (by simpa using hown) ⟨rfl, rfl, rfl, Nat.le_refl _, fun _ _ _ => rfl⟩ ⟨_, _, rfl⟩
    unfold Oper.wp execOp
    simp only [ho, resolve, invoke, builtin, Sem.run_bind, Sem.run_pure, Result.andThen_ok, List.map_toArray, List.map_cons, List.map_nil, hs, hx, hr]
    exact hK _ _ h3
  · obtain ⟨ad, rfl, hnews⟩ := hq h0
    refine wpList_step fun K hK => ?_
    rw [if_pos hgd]
    refine wp_append_own w s x t ho base e i z size bytes ht hi hz hsize hby hzs hsz _ n xs hs hown ad m c news hx hl hnews h1 h63 hbytes hbase fun v' w' h2 h3 h4 => hK _ _ (h v' w' h2 h3 ?_)
    rcases h2.2 with ⟨hh, h5⟩ | ⟨g', cap', cur, hv, _⟩
    · omega
    · exact ⟨g', cap', hv⟩
end Go
namespace Go.Proofs.Ytgcojmjllpjefaa
open Go.RowKit Go.Proofs.LexMath

def ORet (W : World) (ts : List Tok) (e : Ending) (w' : World) : Prop := ∃ g cap, e = .returned (.slice (some ⟨g, 0, none⟩) ts.length cap) ∧ W.heap.size ≤ g ∧ w'.ownsRow W.heap.size 37 4 (.slice (some ⟨g, 0, none⟩) ts.length cap) ts.length (tokCells ts) ∧ Below W.heap.size W w'
theorem oown_zero (p : Option Addr) (c : Nat) (w : World) : Calls Try.prog 16 #[.slice p 0 c] w (ORet w []) := by
  rcases p with _ | a <;>
  · go_enter Try.func16, Try.ntmps16
    go_wp2
    go_ret
    exact ⟨_, _, rfl, Nat.le_refl _, World.ownsRow_made w #[] 0 (Nat.le_refl _) (Nat.zero_le _) rfl, (Below.refl _ _).alloc (Nat.le_refl _) _⟩
theorem owns_block {w : World} {base n cap : Nat} {e : TypeId} {g : Nat} {xs : List Value} (h : w.ownsRow base e 4 (.slice (some ⟨g, 0, none⟩) n cap) n xs) : base ≤ g := by
  rcases h.2 with ⟨hh, _⟩ | ⟨g2, cap2, cur, hv, hb, _⟩
  · simp at hh
  · simp only [Value.slice.injEq, Option.some.injEq, Addr.mk.injEq] at hv
    omega
theorem oown_some (b off c : Nat) (ns : List Tok) (w : World) (hne : ns ≠ []) (hb : b < w.heap.size) (hc : Hid (CellsIn w b off (tokCells ns))) (hn : ns.length ≤ 1000000) : Calls Try.prog 16 #[.slice (some ⟨b, off, none⟩) ns.length c] w (ORet w ns) := by
  obtain ⟨i0, hi, hz0, hz1, hz2⟩ := infoTok
  have HI := Lib.hid (And.intro hi (And.intro hz0 (And.intro hz1 hz2)))
  clear hi hz0 hz1 hz2
  have hp : ns.length ≠ 0 := by intro h; exact hne (List.eq_nil_of_length_eq_zero h)
  have HP := Lib.hid hp
  clear hp hne
  go_enter Try.func16, Try.ntmps16
  go_wp2_with ((at_builtin; refine wpList_append_own _ rfl _ _ 23 rfl w.heap.size 37 i0 zeroTok 4 40 Try.underlying23 HI.out.1 HI.out.2.1 HI.out.2.2.1 HI.out.2.2.2 rfl (by decide) _ 0 [] rfl (World.ownsRow_made w #[] 0 (Nat.le_refl _) (Nat.zero_le _) rfl) ⟨b, off, none⟩ ns.length c (tokCells ns) rfl (length_tokCells ns) (hc.out.kept (Below.heap_alloc _ _ b hb)).at (tokCells_one ns) (by unfold maxLen; omega) (by omega) (by simp) ?_; intro v' w3 hown' hgrow hnil; have HO3 := Lib.hid hown'; have HG := Lib.hid hgrow; clear hown' hgrow hnil))
  go_ret
  have ho := HO3.out
  rw [Nat.zero_add, List.nil_append] at ho
  have hf := ho.2
  rcases hf with ⟨_, h0⟩ | ⟨g, cap, cur, rfl, hg, _⟩
  · exact absurd h0 HP.out
  · refine ⟨g, cap, rfl, hg, ho, ?_⟩
    exact ((Below.refl _ _).alloc (Nat.le_refl _) _).grown HG.out (by simp) fun k hk => by
      have hk' : some w.heap.size = some k := hk
      simp at hk'
      omega
theorem oown_any (v : Value) (ns : List Tok) (w : World) (h : ToksAt w v ns) (hn : ns.length ≤ 1000000) : Calls Try.prog 16 #[v] w (ORet w ns) := by
  obtain ⟨_, p, c, rfl, _, _, hp⟩ := h
  rcases ns with _ | ⟨x, ns⟩
  · exact oown_zero p c w
  · obtain ⟨b, off, rfl, hb, hc⟩ := hp (by simp)
    exact oown_some b off c (x :: ns) w (by simp) hb hc hn
theorem joins_err (a b : Bs) (e : Int) (q : Nat) (h : lex a = .err e q) : lex (a ++ 10 :: b) = .err e q := by
  have := lex_join b 0 0 a
  rw [show lexAt 0 0 a = .err e q from h] at this
  exact this
theorem joins_ok (a b : Bs) (ts : List Tok) (h : lex a = .ok ts) : lex (a ++ 10 :: b) = (lexAt (0 + a.length + 1) (0 + ts.length) b).pre ts := by
  have := lex_join b 0 0 a
  rw [show lexAt 0 0 a = .ok ts from h] at this
  exact this
theorem lex_len {l : Bs} {ts : List Tok} (h : lex l = .ok ts) : ts.length ≤ l.length := by
  have := lex_line 0 0 l (by omega)
  rw [show lexAt 0 0 l = .ok ts from h] at this
  exact this.2.1
theorem joins_mid (a b : Bs) (ts : List Tok) (f : Int) (q : Nat) (ha : a.length ≤ 300) (hb : b.length ≤ 300) (h : lex a = .ok ts) (h2 : lex b = .err f q) : ∃ q2, lex (a ++ 10 :: b) = .err f q2 ∧ a.length < q2 := by
  have hl := lex_len h
  have hs := lex_shift (0 + a.length + 1) (0 + ts.length) 0 0 b (by omega) (by omega)
  rw [show lexAt 0 0 b = .err f q from h2] at hs
  rw [joins_ok a b ts h]
  cases hx : lexAt (0 + a.length + 1) (0 + ts.length) b with
  | ok m => rw [hx] at hs; exact hs.elim
  | err e' q' =>
    rw [hx] at hs
    obtain ⟨rfl, h3⟩ := hs
    exact ⟨q', rfl, by omega⟩
theorem joins_both (a b : Bs) (ts m : List Tok) (ha : a.length ≤ 300) (hb : b.length ≤ 300) (h : lex a = .ok ts) (h2 : lex b = .ok m) : ∃ k, lex (a ++ 10 :: b) = .ok k ∧ sameB k (ts ++ m) = true ∧ k.length ≤ 1000 := by
  have hl := lex_len h
  have hl2 := lex_len h2
  have hs := lex_shift (0 + a.length + 1) (0 + ts.length) 0 0 b (by omega) (by omega)
  rw [show lexAt 0 0 b = .ok m from h2] at hs
  rw [joins_ok a b ts h]
  cases hx : lexAt (0 + a.length + 1) (0 + ts.length) b with
  | err e' q' => rw [hx] at hs; exact hs.elim
  | ok k =>
    rw [hx] at hs
    have hs' : sameL k m := hs
    unfold sameL at hs'
    have hk : k.length = m.length := by
      have := congrArg List.length hs'
      simpa using this
    refine ⟨ts ++ k, rfl, ?_, by rw [List.length_append]; omega⟩
    unfold sameB
    simp [hs']
theorem joined (a b : ByteArray) : (a ++ ⟨#[10]⟩ ++ b).data.toList = a.data.toList ++ 10 :: b.data.toList := by
  simp [ByteArray.data_append]
theorem joins_far (a b : ByteArray) (w : World) (h : 300 < a.size ∨ 300 < b.size) : Calls Try.prog 8 #[.string a, .string b] w (RB true w) := by
  by_cases h1 : 300 < a.size
  · have d1 : decide ((300 : Int) < (a.size : Int)) = true := by simp; omega
    clear h h1
    go_enter Try.func8, Try.ntmps8
    go_wp2_with fail
    refine (awake_any _).mono ?_
    rintro e w1 ⟨rfl, b1⟩
    have B1 := Lib.hid b1
    clear b1
    go_wp2_with fail
    refine (awake_any _).mono ?_
    rintro e w2 ⟨rfl, b2⟩
    go_wp2
    go_ret
    exact ⟨rfl, B1.out.trans (b2.mono B1.out.size)⟩
  · have d1 : decide ((300 : Int) < (a.size : Int)) = false := by simp; omega
    have d2 : decide ((300 : Int) < (b.size : Int)) = true := by simp; omega
    clear h h1
    go_enter Try.func8, Try.ntmps8
    go_wp2_with fail
    refine (awake_any _).mono ?_
    rintro e w1 ⟨rfl, b1⟩
    have B1 := Lib.hid b1
    clear b1
    go_wp2_with fail
    refine (awake_any _).mono ?_
    rintro e w2 ⟨rfl, b2⟩
    go_wp2
    go_ret
    exact ⟨rfl, B1.out.trans (b2.mono B1.out.size)⟩
theorem err_ne {l : Bs} {e : Int} {q : Nat} (h : lex l = .err e q) : (e != 0) = true := by
  have := lex_line 0 0 l (by omega)
  rw [show lexAt 0 0 l = .err e q from h] at this
  have h1 := this.2.2.1
  simp
  omega
set_option maxHeartbeats 2000000 in
theorem joins_near (a b : ByteArray) (w : World) (h1 : a.size ≤ 300) (h2 : b.size ≤ 300) : Calls Try.prog 8 #[.string a, .string b] w (RB true w) := by
  have d1 : decide ((300 : Int) < (a.size : Int)) = false := by simp; omega
  have d2 : decide ((300 : Int) < (b.size : Int)) = false := by simp; omega
  have ha : a.data.toList.length ≤ 300 := h1
  have hb : b.data.toList.length ≤ 300 := h2
  have L := fun W => lex_any a W (by omega)
  have M := fun W => lex_any b W (by omega)
  have hz : (a ++ ⟨#[10]⟩ ++ b).size ≤ 601 := by
    have e := congrArg List.length (joined a b)
    rw [List.length_append, List.length_cons] at e
    have : (a ++ ⟨#[10]⟩ ++ b).data.toList.length = (a ++ ⟨#[10]⟩ ++ b).size := rfl
    omega
  have C := fun W => lex_any (a ++ ⟨#[10]⟩ ++ b) W (by omega)
  rw [joined] at C
  cases hl : lex a.data.toList with
  | err e q =>
    rw [joins_err _ _ e q hl] at C
    rw [hl] at L
    have hne := err_ne hl
    have hne2 : (e == 0) = false := by simpa using hne
    cases hm : lex b.data.toList with
    | err f q2 =>
      rw [hm] at M
      have LL := Lib.hid L
      have MM := Lib.hid M
      have CC := Lib.hid C
      clear L M C hl hm ha hb hz
      go_enter Try.func8, Try.ntmps8
      go_wp2_with fail
      refine (awake_any _).mono ?_
      rintro e' w1 ⟨rfl, b1⟩
      have B1 := Lib.hid b1
      clear b1
      go_wp2_with fail
      refine (LL.out _).mono ?_
      rintro e' w2 ⟨rfl, b2⟩
      have B2 := Lib.hid (B1.out.trans (b2.mono B1.out.size))
      clear b2 B1
      go_wp2_with fail
      refine (MM.out _).mono ?_
      rintro e' w3 ⟨rfl, b3⟩
      have B3 := Lib.hid (B2.out.trans (b3.mono B2.out.size))
      clear b3 B2
      go_wp2_with fail
      refine (CC.out _).mono ?_
      rintro e' w4 ⟨rfl, b4⟩
      go_wp2
      go_ret
      exact ⟨rfl, B3.out.trans (b4.mono B3.out.size)⟩
    | ok m =>
      rw [hm] at M
      have LL := Lib.hid L
      have MM := Lib.hid M
      have CC := Lib.hid C
      clear L M C hl hm ha hb hz
      go_enter Try.func8, Try.ntmps8
      go_wp2_with fail
      refine (awake_any _).mono ?_
      rintro e' w1 ⟨rfl, b1⟩
      have B1 := Lib.hid b1
      clear b1
      go_wp2_with fail
      refine (LL.out _).mono ?_
      rintro e' w2 ⟨rfl, b2⟩
      have B2 := Lib.hid (B1.out.trans (b2.mono B1.out.size))
      clear b2 B1
      go_wp2_with fail
      refine (MM.out _).mono ?_
      rintro e' w3 ⟨v3, rfl, t3, b3⟩
      obtain ⟨p3, c3, rfl⟩ := toks_form t3
      have B3 := Lib.hid (B2.out.trans (b3.mono B2.out.size))
      have T3 := Lib.hid t3
      clear b3 B2 t3
      go_wp2_with fail
      refine (CC.out _).mono ?_
      rintro e' w4 ⟨rfl, b4⟩
      go_wp2
      go_ret
      exact ⟨rfl, B3.out.trans (b4.mono B3.out.size)⟩
  | ok ts =>
    rw [hl] at L
    have lt := Nat.le_trans (lex_len hl) ha
    cases hm : lex b.data.toList with
    | err f q =>
      obtain ⟨q2, hc, hq⟩ := joins_mid _ _ ts f q ha hb hl hm
      rw [hm] at M
      rw [hc] at C
      have hne := err_ne hm
      have hne2 : (f == 0) = false := by simpa using hne
      have hg : decide (a.size < q2) = true := by
        have : a.data.toList.length = a.size := rfl
        simp; omega
      have LL := Lib.hid L
      have MM := Lib.hid M
      have CC := Lib.hid C
      clear L M C hl hm ha hb hz hc hq lt
      go_enter Try.func8, Try.ntmps8
      go_wp2_with fail
      refine (awake_any _).mono ?_
      rintro e' w1 ⟨rfl, b1⟩
      have B1 := Lib.hid b1
      clear b1
      go_wp2_with fail
      refine (LL.out _).mono ?_
      rintro e' w2 ⟨v2, rfl, t2, b2⟩
      obtain ⟨p2, c2, rfl⟩ := toks_form t2
      have B2 := Lib.hid (B1.out.trans (b2.mono B1.out.size))
      have T2 := Lib.hid t2
      clear b2 B1 t2
      go_wp2_with fail
      refine (MM.out _).mono ?_
      rintro e' w3 ⟨rfl, b3⟩
      have B3 := Lib.hid (B2.out.trans (b3.mono B2.out.size))
      clear b3 B2
      go_wp2_with fail
      refine (CC.out _).mono ?_
      rintro e' w4 ⟨rfl, b4⟩
      go_wp2
      go_ret
      exact ⟨rfl, B3.out.trans (b4.mono B3.out.size)⟩
    | ok m =>
      obtain ⟨k, hc, hs, hk⟩ := joins_both _ _ ts m ha hb hl hm
      have lm := Nat.le_trans (lex_len hm) hb
      rw [hm] at M
      rw [hc] at C
      have RS := fun v1 v2 W h1 h2 => rsame_any v1 v2 k (ts ++ m) W h1 h2 (by omega)
      rw [hs] at RS
      have RS := Lib.hid RS
      have LL := Lib.hid L
      have MM := Lib.hid M
      have CC := Lib.hid C
      clear L M C hl hm ha hb hz hc hs
      go_enter Try.func8, Try.ntmps8
      go_wp2_with fail
      refine (awake_any _).mono ?_
      rintro e' w1 ⟨rfl, b1⟩
      have B1 := Lib.hid b1
      clear b1
      go_wp2_with fail
      refine (LL.out _).mono ?_
      rintro e' w2 ⟨v2, rfl, t2, b2⟩
      obtain ⟨p2, c2, rfl⟩ := toks_form t2
      have B2 := Lib.hid (B1.out.trans (b2.mono B1.out.size))
      have T2 := Lib.hid t2
      clear b2 B1 t2
      go_wp2_with fail
      refine (MM.out _).mono ?_
      rintro e' w3 ⟨v3, rfl, t3, b3⟩
      obtain ⟨p3, c3, rfl⟩ := toks_form t3
      have B3 := Lib.hid (B2.out.trans (b3.mono B2.out.size))
      have T3 := Lib.hid t3
      have T2 := Lib.hid (T2.out.below b3)
      clear b3 B2 t3
      go_wp2_with fail
      refine (CC.out _).mono ?_
      rintro e' w4 ⟨v4, rfl, t4, b4⟩
      obtain ⟨p4, c4, rfl⟩ := toks_form t4
      have B4 := Lib.hid (B3.out.trans (b4.mono B3.out.size))
      have T4 := Lib.hid t4
      have T3 := Lib.hid (T3.out.below b4)
      have T2 := Lib.hid (T2.out.below b4)
      have O := oown_any _ ts w4 T2.out (by omega)
      have OO := Lib.hid O
      clear b4 B3 t4 O
      go_wp2_with fail
      refine OO.out.mono ?_
      rintro e' w5 ⟨g, cap, rfl, hg, ho, b5⟩
      have T3 := Lib.hid (T3.out.below b5)
      have HO := Lib.hid ho
      have B5 := Lib.hid b5
      have hz5 := b5.size
      obtain ⟨_, q3, d3, hv, _, _, hsrc⟩ := T3.out
      simp only [Value.slice.injEq] at hv
      obtain ⟨rfl, _, rfl⟩ := hv
      have HS : Hid (m.length ≠ 0 → ∃ ad, p3 = some ad ∧ ∀ j u, (tokCells m)[j]? = some u → w5.cell? (ad.add j) = some u) := Lib.hid (fun h0 => by
        obtain ⟨b', off', rfl, _, hc'⟩ := hsrc h0
        exact ⟨_, rfl, hc'.at⟩)
      clear b5 ho hsrc
      obtain ⟨i0, hi, hz0, hz1, hz2⟩ := infoTok
      have HI := Lib.hid (And.intro hi (And.intro hz0 (And.intro hz1 hz2)))
      clear hi hz0 hz1 hz2
      go_wp2_with ((first
        | (at_builtin; refine wpList_append_view_if _ (by rfl) (.tmp 74) (.tmp 75) 23 rfl w4.heap.size 37 i0 zeroTok 4 40 Try.underlying23 HI.out.1 HI.out.2.1 HI.out.2.2.1 HI.out.2.2.2 rfl (by decide) g ts.length cap (tokCells ts) rfl HO.out p3 m.length c3 (tokCells m) rfl (length_tokCells m) HS.out (tokCells_one m) (by unfold maxLen; omega) (by omega) hz5 ?_; intro v' w6 hown' hgrow hform; have HO6 := Lib.hid hown'; have HG := Lib.hid hgrow; obtain ⟨g', cap', rfl⟩ := hform; clear hown' hgrow)
        | (go_at_call 18; refine (RS.out _ _ _ ?ta ?tb).mono ?_; (case ta => exact T4.out.below (B5.out.grown HG.out hz5 (fun k hk => by simp at hk; omega))); (case tb => (have := SliceAt.of_owns HO6.out; rw [← tokCells_append] at this; simpa [ToksAt] using this)); rintro e' w7 ⟨rfl, b7⟩; have B7 := Lib.hid b7; clear b7)))
      go_ret
      exact ⟨rfl, B4.out.trans ((B5.out.grown HG.out hz5 (fun k hk => by simp at hk; omega)).mono B4.out.size |>.trans (B7.out.mono (Nat.le_trans B4.out.size (Nat.le_trans hz5 HG.out.size))))⟩
theorem joins_walk (a b : ByteArray) (w : World) : Calls Try.prog 8 #[.string a, .string b] w (RB true w) := by
  by_cases h : 300 < a.size ∨ 300 < b.size
  · exact joins_far a b w h
  · exact joins_near a b w (by omega) (by omega)
end Go.Proofs.Ytgcojmjllpjefaa
