/- Texts of this seat, one behind the other: UnC, UnB, ReA. -/
import Derived.Test.YtncifeeinogcnaaGreatDoorKn16
import Derived.Laws.EntriesVeiled
/- A store's Unify: what is so behind its parts. -/
set_option maxRecDepth 100000
namespace Go.Proofs.YtncifeeinogcnaaGreatDoor
open Go.RowKit Go.Lib Go.Maps Go.Proofs.TreeMath

/-- Both types are terms. -/
structure Two (S : SS) (es : List (T × T)) (sb mb m : Nat) (nx mrk : Int) (ta tb : T) (w : World) (pb : Nat) (w5 : World) (S2 : SS) (tr2 : Nat → T) (x y m2 : Nat) (D2 : DM) : Prop where
  st : ST w5.heap.size w5 S2 tr2 es sb mb m2 D2 nx mrk
  hx : x ∈ S2.dom
  hy : y ∈ S2.dom
  tx : tr2 x = ta
  ty : tr2 y = tb
  new : ∀ z ∈ S2.dom, z ∈ S.dom ∨ w.heap.size ≤ z
  hp : w5.heap[pb]? = some (.cells #[.slice none 0 0, .slice none 0 0] 128 (0, 0))
  hpw : w.heap.size ≤ pb
  fr : Frm (DB S mb) w.heap.size w w5
  wz : wa S2 + 2 ≤ wa S + 2 * (szT ta + szT tb)
  mm : m2 ≤ m + (szT ta + szT tb)
theorem two_of {S : SS} {tr : Nat → T} {es : List (T × T)} {sb mb m : Nat} {nx mrk : Int} {ta tb : T} {w w3 w4 w5 : World} {pb : Nat} (b3 : Below w.heap.size w w3) (hp : w3.heap[pb]? = some (.cells #[.slice none 0 0, .slice none 0 0] 128 (0, 0))) (hpw : w.heap.size ≤ pb) (hpd : ∀ k ∈ S.dom, k < w.heap.size) (hmb : mb < w.heap.size)
    {S1 : SS} {tr1 : Nat → T} {x m1 : Nat} {D1 : DM} (hx : x ∈ S1.dom) (tx : tr1 x = ta) (g1 : Gro w3 S tr S1 tr1) (f1 : Frm (DB S mb) w3.heap.size w3 w4) (hw1 : wa S1 + 1 ≤ wa S + 2 * szT ta) (hn1 : m1 ≤ m + szT ta) (st1 : ST w4.heap.size w4 S1 tr1 es sb mb m1 D1 nx mrk)
    {S2 : SS} {tr2 : Nat → T} {y m2 : Nat} {D2 : DM} (st2 : ST w5.heap.size w5 S2 tr2 es sb mb m2 D2 nx mrk) (hy : y ∈ S2.dom) (ty : tr2 y = tb) (g2 : Gro w4 S1 tr1 S2 tr2) (f2 : Frm (DB S1 mb) w4.heap.size w4 w5) (hw2 : wa S2 + 1 ≤ wa S1 + 2 * szT tb) (hn2 : m2 ≤ m1 + szT tb) :
    Two S es sb mb m nx mrk ta tb w pb w5 S2 tr2 x y m2 D2 := by
  have hpl : pb < w3.heap.size := (Array.getElem?_eq_some_iff.1 hp).1
  have p1 : pb ∉ S.dom ∧ pb ≠ mb := ⟨fun hd => by have := hpd pb hd; omega, by omega⟩
  have hp4 : w4.heap[pb]? = some (.cells #[.slice none 0 0, .slice none 0 0] 128 (0, 0)) := (f1.block pb hpl (by rintro (e | e); exact p1.1 e; exact p1.2 e)).trans hp
  have hpl4 : pb < w4.heap.size := (Array.getElem?_eq_some_iff.1 hp4).1
  have p2 := st1.ne22 hp4 (by decide) (by decide)
  have hp5 := (f2.block pb hpl4 (by rintro (e | e); exact p2.1 e; exact p2.2.1 e)).trans hp4
  refine ⟨st2, g2.dom x hx, hy, (g2.tr x hx).trans tx, ty, fun z hz => ?_, hp5, hpw, ?_, by omega, by omega⟩
  · rcases g2.new z hz with e | e
    · rcases g1.new z e with e | e
      · exact .inl e
      · exact .inr (Nat.le_trans b3.size e)
    · exact .inr (Nat.le_trans (Nat.le_trans b3.size f1.size) e)
  · refine ((Frm.of_below b3).trans (f1.mono b3.size fun k _ hd => hd)).trans (f2.mono (Nat.le_trans b3.size f1.size) fun k hk hd => ?_)
    rcases hd with hd | hd
    · rcases g1.new k hd with e | e
      · exact .inl e
      · have := b3.size; omega
    · exact .inr hd
theorem Two.solve {S : SS} {es : List (T × T)} {sb mb m : Nat} {nx mrk : Int} {ta tb : T} {w : World} {pb : Nat} {w5 : World} {S2 : SS} {tr2 : Nat → T} {x y m2 : Nat} {D2 : DM} (h : Two S es sb mb m nx mrk ta tb w pb w5 S2 tr2 x y m2 D2) (hwa : wa S2 ≤ 100000000) :
    Calls Tryz.prog 79 #[pv pb, .agg #[pv x, pv y]] w5 (SolP w5.heap.size pb S2 tr2 ((ta, tb) :: es) w5) := by
  refine solve_any w5.heap.size pb (wa S2 + 1) S2 tr2 _ x y w5 h.st.core.ok h.st.tw h.hp (h.st.core.sol.start h.hx h.hy h.tx h.ty) ?_ (by omega)
  unfold mS
  have := wt_wa S2 tr2 (fun z => decide (S2.rep z = z))
  simp only [List.length_cons, List.length_nil]
  omega
/-- What a solver leaves, asked for circles. -/
theorem Two.circ {S : SS} {es : List (T × T)} {sb mb m : Nat} {nx mrk : Int} {ta tb : T} {w : World} {pb : Nat} {w5 w6 : World} {S2 : SS} {tr2 : Nat → T} {x y m2 : Nat} {D2 : DM} (h : Two S es sb mb m nx mrk ta tb w pb w5 S2 tr2 x y m2 D2) (hwa : wa S2 ≤ 100000000) (hmrk : mrk ≤ 100000000)
    {rep : Nat → Nat} {wi : Nat → Bool} {bd : List Nat} (lp : Lp (S2.gr tr2) ((ta, tb) :: es) S2.rep S2.wi rep wi bd []) (sv : SV w5.heap.size pb w6 { S2 with rep := rep, wi := wi } bd []) (fr : Frm (S2.Dp pb) w5.heap.size w5 w6) (lb : bd.length ≤ 100000001) :
    ∃ q c, w6.cell? ⟨pb, 1, none⟩ = some (.slice q bd.length c) ∧ Calls Tryz.prog 81 #[pv sb, .slice q bd.length c] w6 (CirP w5.heap.size sb { S2 with rep := rep, wi := wi } tr2 bd (.int .i64 nx) (.map (some mb)) mrk w6) := by
  obtain ⟨ov, bv, hp, _, hb⟩ := sv.ex
  obtain ⟨q, c, rfl⟩ := row_form hb
  have hsb : sb ∉ S2.dom ∧ sb ≠ pb := ⟨fun hd => by
    obtain ⟨_, cs, hc⟩ := h.st.tw.blk hd
    rw [h.st.sbk] at hc; simp at hc, by rintro rfl; have := h.st.sbk; rw [h.hp] at this; simp at this⟩
  have hs6 : w6.heap[sb]? = some (.cells #[.int .i64 nx, .map (some mb), .int .i64 mrk] 95 (0, 0)) := (fr.block sb h.st.bnd.1 (by rintro (e | e); exact hsb.1 e; exact hsb.2 e)).trans h.st.sbk
  refine ⟨q, c, cell_of_heap hp 1, circular_any w5.heap.size sb 1000000000 { S2 with rep := rep, wi := wi } tr2 bd _ _ mrk _ w6 h.st.core.ok sv.tw hb (fun z hz => (lp.bin z hz).1) hs6 h.st.mle h.st.pos (by omega) (fun z hz => lp.sol.rin z hz) lp.sol.rid ?_ (Nat.le_refl _)⟩
  unfold mC
  have := wt_wa S2 tr2 (fun z => decide (S2.mr z < mrk + 1))
  change wt (S2.gr tr2) S2.dom (fun z => decide (S2.mr z < mrk + 1)) + bd.length ≤ _
  omega
/-- No circle: the store knows one equation more. -/
theorem Two.end {S : SS} {es : List (T × T)} {sb mb m : Nat} {nx mrk : Int} {ta tb : T} {w : World} {pb : Nat} {w5 w6 w7 : World} {S2 : SS} {tr2 : Nat → T} {x y m2 : Nat} {D2 : DM} (h : Two S es sb mb m nx mrk ta tb w pb w5 S2 tr2 x y m2 D2)
    {rep : Nat → Nat} {wi : Nat → Bool} {bd : List Nat} (lp : Lp (S2.gr tr2) ((ta, tb) :: es) S2.rep S2.wi rep wi bd []) (fr : Frm (S2.Dp pb) w5.heap.size w5 w6)
    {mk : Nat → Int} (hm : ∀ z ∈ S2.dom, mk z ≤ mrk + 2) (tw : TW w5.heap.size w7 { S2 with rep := rep, wi := wi, mr := mk }) (hs : w7.heap[sb]? = some (.cells #[.int .i64 nx, .map (some mb), .int .i64 (mrk + 2)] 95 (0, 0)))
    (ha : ∀ z ∈ bd, Acc (Ed (S2.gr tr2) rep) (rep z)) (f7 : Frm (DS S2 sb) w6.heap.size w6 w7) : ST w7.heap.size w7 { S2 with rep := rep, wi := wi, mr := mk } tr2 ((ta, tb) :: es) sb mb m2 D2 nx (mrk + 2) := by
  have c := h.st.core
  have acc := lp.acc c.ok c.wk c.sol.rin c.sol.rid c.acc ha
  have mb6 : mb ∉ S2.dom ∧ mb ≠ pb ∧ mb ≠ sb := ⟨fun hd => by
    obtain ⟨_, cs, hc⟩ := h.st.tw.blk hd
    exact map_ne h.st.map hc rfl, fun e => map_ne h.st.map h.hp e.symm, fun e => map_ne h.st.map h.st.sbk e.symm⟩
  have st7 : ST w5.heap.size w7 { S2 with rep := rep, wi := wi, mr := mk } tr2 ((ta, tb) :: es) sb mb m2 D2 nx (mrk + 2) := by
    refine ⟨⟨c.ok, lp.sol, lp.wk c.ok c.wk c.sol.rin c.sol.rid, acc⟩, tw, hs, ?_, h.st.bnd, h.st.key, h.st.only, hm, by have := h.st.pos; omega, h.st.rng⟩
    obtain ⟨es', cl, hb, rr⟩ := h.st.map
    have e6 := fr.block mb h.st.bnd.2 (by rintro (e | e); exact mb6.1 e; exact mb6.2.1 e)
    have e7 := f7.block mb (Nat.lt_of_lt_of_le h.st.bnd.2 fr.size) (by rintro (e | e); exact mb6.1 e; exact mb6.2.2 e)
    exact ⟨es', cl, e7.trans (e6.trans hb), rr⟩
  exact st7.raise (Nat.le_trans fr.size f7.size) (Nat.le_refl _)
theorem Two.frm {S : SS} {es : List (T × T)} {sb mb m : Nat} {nx mrk : Int} {ta tb : T} {w : World} {pb : Nat} {w5 w6 w7 : World} {S2 : SS} {tr2 : Nat → T} {x y m2 : Nat} {D2 : DM} (h : Two S es sb mb m nx mrk ta tb w pb w5 S2 tr2 x y m2 D2) (fr : Frm (S2.Dp pb) w5.heap.size w5 w6) : Frm (DU S sb mb) w.heap.size w w6 ∧ (Frm (DS S2 sb) w6.heap.size w6 w7 → Frm (DU S sb mb) w.heap.size w w7) := by
  have f6 : Frm (DU S sb mb) w.heap.size w w6 := by
    refine (h.fr.mono (Nat.le_refl _) fun k _ hd => ?_).trans (fr.mono h.fr.size fun k hk hd => ?_)
    · rcases hd with hd | hd
      · exact .inl hd
      · exact .inr (.inl hd)
    · rcases hd with hd | hd
      · rcases h.new k hd with e | e
        · exact .inl e
        · omega
      · have := h.hpw; omega
  refine ⟨f6, fun f7 => f6.trans (f7.mono f6.size fun k hk hd => ?_)⟩
  rcases hd with hd | hd
  · rcases h.new k hd with e | e
    · exact .inl e
    · omega
  · exact .inr (.inr hd)
end Go.Proofs.YtncifeeinogcnaaGreatDoor
/- The contract of a store's Unify. -/
set_option maxRecDepth 100000
namespace Go.Proofs.YtncifeeinogcnaaGreatDoor
open Go.RowKit Go.Lib Go.Maps Go.Proofs.TreeMath

set_option maxHeartbeats 4000000 in
theorem sunify_any (S : SS) (tr : Nat → T) (es : List (T × T)) (sb mb m : Nat) (D : DM) (nx mrk : Int) (va vb : Value) (la lb : List Nd) (w : World) (h : ST w.heap.size w S tr es sb mb m D nx mrk) (ha : NodesAt w va la) (hb : NodesAt w vb lb)
    (oa : ∀ b o m c, va = .slice (some ⟨b, o, none⟩) m c → b ∉ S.dom ∧ b ≠ mb) (ob : ∀ b o m c, vb = .slice (some ⟨b, o, none⟩) m c → b ∉ S.dom ∧ b ≠ mb) (na1 : la.length ≤ 1000000) (nb1 : lb.length ≤ 1000000) (sa : SmallN la) (sB : SmallN lb)
    (hwa : wa S ≤ 10000000) (hm : m ≤ 10000000) (hmrk : mrk ≤ 100000000) : Calls Tryz.prog 41 #[pv sb, va, vb] w (UfP S es sb mb m nx mrk la lb w) := by
  have CA := Lib.hid (check_any va la w ha na1 sa)
  unfold CkP at CA
  cases hta : tyB la with
  | false =>
    have E : Hid (∀ w', Below w.heap.size w w' → UfP S es sb mb m nx mrk la lb w (.returned (.int .i64 90)) w') := Lib.hid fun w' b => .form (.inl hta) rfl b
    rw [hta] at CA
    clear h ha hb oa ob na1 nb1 sa sB hwa hm hmrk hta
    unfold pv
    go_enter Tryz.func41, Tryz.ntmps41
    go_wp2_with fail
    refine CA.out.mono ?_
    rintro e w1 ⟨rfl, b1⟩
    have B1 := Lib.hid b1
    clear b1 CA
    go_wp2
    go_ret
    exact E.out _ B1.out
  | true =>
    have CB := Lib.hid (fun W (hW : Below w.heap.size w W) => check_any vb lb W (hb.below hW) nb1 sB)
    unfold CkP at CB
    cases htb : tyB lb with
    | false =>
      have E : Hid (∀ w', Below w.heap.size w w' → UfP S es sb mb m nx mrk la lb w (.returned (.int .i64 90)) w') := Lib.hid fun w' b => .form (.inr htb) rfl b
      rw [hta] at CA
      rw [htb] at CB
      clear h ha hb oa ob na1 nb1 sa sB hwa hm hmrk hta htb
      unfold pv
      go_enter Tryz.func41, Tryz.ntmps41
      go_wp2_with fail
      refine CA.out.mono ?_
      rintro e w1 ⟨rfl, b1⟩
      have B1 := Lib.hid b1
      clear b1 CA
      go_wp2_with fail
      refine (CB.out _ B1.out).mono ?_
      rintro e w2 ⟨rfl, b2⟩
      have B2 := Lib.hid (B1.out.trans (b2.mono B1.out.size))
      clear b2 CB
      go_wp2
      go_ret
      exact E.out _ B2.out
    | true =>
      obtain ⟨na, ka, ea, oka, sza, _⟩ := ty_tree hta
      obtain ⟨nb, kb, eb, okb, szb, _⟩ := ty_tree htb
      rw [hta] at CA
      rw [htb] at CB
      have hla : la.length = 1 + ka.sz := by rw [ea, List.length_cons, F.flat_length]; omega
      have hlb : lb.length = 1 + kb.sz := by rw [eb, List.length_cons, F.flat_length]; omega
      have TA := Lib.hid (fun W (hW : Below w.heap.size w W) => term_any S tr es sb mb m D nx mrk va na ka W ((h.frm hW).raise hW.size (Nat.le_refl _)) (by rw [← ea]; exact ha.below hW) oka oa (by omega) (by omega))
      have HB := Lib.hid (fun W (hf : ∀ b o m c, vb = .slice (some ⟨b, o, none⟩) m c → b < w.heap.size → W.heap[b]? = w.heap[b]?) (hz : w.heap.size ≤ W.heap.size) => show NodesAt W vb lb from by
        obtain ⟨g1, p, cap, e, g2, g3, g4⟩ := hb
        refine ⟨g1, p, cap, e, g2, g3, fun h0 => ?_⟩
        obtain ⟨b', off', rfl, gb, gc⟩ := g4 h0
        exact ⟨b', off', rfl, Nat.lt_of_lt_of_le gb hz, gc.kept (hf b' off' _ cap e gb)⟩)
      have HBL := Lib.hid (show ∀ b o m c, vb = .slice (some ⟨b, o, none⟩) m c → b < w.heap.size from fun b o m c e => by
        obtain ⟨g1, p, cap, e2, g2, g3, g4⟩ := hb
        obtain ⟨b', off', rfl, gb, gc⟩ := g4 (by omega)
        rw [e2] at e
        simp only [Value.slice.injEq, Option.some.injEq, Addr.mk.injEq, and_true] at e
        omega)
      have H := Lib.hid h
      have OA := Lib.hid oa
      have OBB := Lib.hid ob
      have NUM := Lib.hid (And.intro hwa (And.intro hm (And.intro hmrk (And.intro sza szb))))
      have EAB := Lib.hid (And.intro ea (And.intro eb (And.intro oka okb)))
      have LAB := Lib.hid (And.intro hla hlb)
      clear h ha hb oa ob na1 nb1 sa sB hwa hm hmrk hta htb ea eb oka okb sza szb hla hlb
      unfold pv at TA ⊢
      go_enter Tryz.func41, Tryz.ntmps41
      go_wp2_with fail
      refine CA.out.mono ?_
      rintro e w1 ⟨rfl, b1⟩
      have B1 := Lib.hid b1
      clear b1 CA
      go_wp2_with fail
      refine (CB.out _ B1.out).mono ?_
      rintro e w2 ⟨rfl, b2⟩
      have B2 := Lib.hid (B1.out.trans (b2.mono B1.out.size))
      clear b2 CB B1
      go_wp2_with fail
      have b3 : Below w.heap.size w (w2.alloc (.cells #[.slice none 0 0, .slice none 0 0] 128)) := B2.out.trans ((Below.refl w2.heap.size w2).alloc (Nat.le_refl _) _ |>.mono B2.out.size)
      have hpt := alloc_top w2 (.cells #[.slice none 0 0, .slice none 0 0] 128)
      obtain ⟨w3, hw3⟩ : ∃ w3, w3 = w2.alloc (.cells #[.slice none 0 0, .slice none 0 0] 128) := ⟨_, rfl⟩
      obtain ⟨pb, hpb⟩ : ∃ pb, pb = w2.heap.size := ⟨_, rfl⟩
      rw [← hw3] at b3 hpt ⊢
      rw [← hpb] at hpt ⊢
      have hpw : w.heap.size ≤ pb := by have := B2.out.size; omega
      clear hw3 hpb
      refine Calls.mono (TA.out w3 b3) ?_
      rintro e w4 ⟨S1, tr1, x, m1, D1, rfl, st1, hx, tx, g1, f1, hw1, hn1⟩
      have hwn := NUM.out
      have TB2 := Lib.hid (term_any S1 tr1 es sb mb m1 D1 nx mrk vb nb kb w4 st1 (by
        have := EAB.out.2.1
        rw [← this]
        refine HB.out w4 (fun b o m c e hb => ?_) (Nat.le_trans b3.size f1.size)
        have hob := OBB.out b o m c e
        exact (f1.block b (Nat.lt_of_lt_of_le hb b3.size) (by rintro (e | e); exact hob.1 e; exact hob.2 e)).trans (b3.block b hb)) EAB.out.2.2.2 (fun b o m c e => by
          have hob := OBB.out b o m c e
          refine ⟨fun hd => ?_, hob.2⟩
          rcases g1.new b hd with e2 | e2
          · exact hob.1 e2
          · have h1 := HBL.out b o m c e
            have h2 := b3.size
            omega) (by simp only [szT] at hw1; omega) (by simp only [szT] at hn1; omega))
      have TWO := Lib.hid (fun w5 S2 tr2 y m2 D2 st2 hy ty g2 f2 hw2 hn2 => two_of b3 hpt hpw (fun k hk => (H.out.tw.blk hk).1) H.out.map.lt hx tx g1 f1 hw1 hn1 st1 (w5 := w5) (S2 := S2) (tr2 := tr2) (y := y) (m2 := m2) (D2 := D2) (tb := (nb, kb)) st2 hy ty g2 f2 hw2 hn2)
      clear st1 hx tx g1 f1 hw1 hn1 hpt hpw b3 TA HB HBL hwn
      unfold pv at TB2 ⊢
      go_wp2_with fail
      refine Calls.mono TB2.out ?_
      rintro e w5 ⟨S2, tr2, y, m2, D2, rfl, st2, hy, ty, g2, f2, hw2, hn2⟩
      have T2 := Lib.hid (TWO.out w5 S2 tr2 y m2 D2 st2 hy ty g2 f2 hw2 hn2)
      clear st2 hy ty g2 f2 hw2 hn2 TWO TB2
      have hw2a : wa S2 ≤ 100000000 := by have h1 := T2.out.wz; have h2 := NUM.out; simp only [szT] at h1; omega
      have SOLVE := Lib.hid (T2.out.solve hw2a)
      have HW2 := Lib.hid hw2a
      clear hw2a
      unfold pv at SOLVE ⊢
      go_wp2_with fail
      refine Calls.mono SOLVE.out ?_
      intro e w6 hs
      clear SOLVE
      have POST : Hid (∀ w7, (∀ s, ¬ Un (((na, ka), (nb, kb)) :: es) s) → Frm (DU S sb mb) w.heap.size w w7 → UfP S es sb mb m nx mrk la lb w (.returned (.int .i64 91)) w7) := Lib.hid fun w7 hn hf => .clash na nb ka kb EAB.out.1 EAB.out.2.1 EAB.out.2.2.1 EAB.out.2.2.2 rfl hn hf
      cases hs with
      | no he hno fr =>
        subst he
        have E := POST.out w6 hno (T2.out.frm (w7 := w6) fr).1
        have E := Lib.hid E
        clear hno fr POST
        go_wp2
        go_ret
        exact E.out
      | yes rep wi bd he lp sv fr hlb =>
        subst he
        obtain ⟨q, c, c1, CIR⟩ := T2.out.circ HW2.out NUM.out.2.2.1 lp sv fr hlb
        have CIR := Lib.hid CIR
        have LP := Lib.hid lp
        have FR := Lib.hid fr
        clear lp sv fr hlb
        unfold pv at CIR
        go_wp2_with fail
        refine Calls.mono CIR.out ?_
        intro e w7 hc
        clear CIR c1
        cases hc with
        | yes he a hcyc fr7 =>
          subst he
          have E := Lib.hid (POST.out w7 (LP.out.sol.circle T2.out.st.core.ok hcyc) ((T2.out.frm FR.out).2 fr7))
          clear hcyc fr7 POST
          go_wp2
          go_ret
          exact E.out
        | no he mk hm tw hs ha fr7 =>
          subst he
          have E : Hid (UfP S es sb mb m nx mrk la lb w (.returned (.int .i64 0)) w7) := .ok na nb ka kb EAB.out.1 EAB.out.2.1 EAB.out.2.2.1 EAB.out.2.2.2 rfl { S2 with rep := rep, wi := wi, mr := mk } tr2 m2 D2 (T2.out.end LP.out FR.out hm tw hs ha fr7)
            (by have h1 := T2.out.wz; have h2 := LAB.out; have e : wa { S2 with rep := rep, wi := wi, mr := mk } = wa S2 := rfl; simp only [szT] at h1; omega) (by have h1 := T2.out.mm; have h2 := LAB.out; simp only [szT] at h1; omega) T2.out.new ((T2.out.frm FR.out).2 fr7)
          clear hm tw hs ha fr7 POST
          go_wp2
          go_ret
          exact E.out
end Go.Proofs.YtncifeeinogcnaaGreatDoor
/- What Resolve's closure holds, and its contract. -/
set_option maxRecDepth 100000
namespace Go.Proofs.YtncifeeinogcnaaGreatDoor
open Go.RowKit Go.Lib Go.Maps Go.Proofs.TreeMath

/-- As much as there is room for is written. -/
structure Wr (L f L' : List Nd) : Prop where
  fits : L.length + f.length ≤ 4000 → L' = L ++ f
  over : 4000 < L.length + f.length → 4000 < L'.length
  most : L'.length ≤ max L.length 4001
theorem Wr.trans {L f L1 g L2 : List Nd} (h : Wr L f L1) (k : Wr L1 g L2) : Wr L (f ++ g) L2 := by
  refine ⟨fun e => ?_, fun e => ?_, by have := h.most; have := k.most; omega⟩
  · rw [List.length_append] at e
    have h1 := h.fits (by omega)
    rw [h1] at k
    have := k.fits (by rw [List.length_append]; omega)
    rw [this, List.append_assoc]
  · rw [List.length_append] at e
    by_cases hf : L.length + f.length ≤ 4000
    · have h1 := h.fits hf
      rw [h1] at k
      exact k.over (by rw [List.length_append]; omega)
    · have := h.over (by omega)
      exact k.over (by omega)
theorem Wr.nil (L : List Nd) : Wr L [] L := ⟨fun _ => by simp, fun e => by simpa using e, by omega⟩
theorem Wr.one {L : List Nd} (x : Nd) (h : L.length ≤ 4000) : Wr L [x] (L ++ [x]) := ⟨fun _ => rfl, fun e => by simpa using e, by rw [List.length_append]; simp; omega⟩
theorem Wr.full {L f : List Nd} (h : 4000 < L.length) : Wr L f L := ⟨fun e => by omega, fun _ => h, by omega⟩
structure WR (B C lb wb : Nat) (S : SS) (L : List Nd) (w : World) : Prop where
  tw : TW B w S
  bc : B ≤ C
  l : ∃ lv, w.heap[lb]? = some (.cells #[lv] 22 (0, 0)) ∧ w.ownsRow C 58 4 lv L.length (nodeCells L)
  wv : w.heap[wb]? = some (.cells #[.func (.func 82) #[] #[pv lb, pv wb]] 134 (0, 0))
  cl : C ≤ lb ∧ C ≤ wb ∧ C ≤ w.heap.size
def WrP (B C lb wb : Nat) (S : SS) (L f : List Nd) (w : World) (e : Ending) (w' : World) : Prop := e = .returned (.tuple #[]) ∧ ∃ L', Wr L f L' ∧ WR B C lb wb S L' w' ∧ Frm S.D C w w'
theorem WR.root {B C lb wb : Nat} {S : SS} {L : List Nd} {w w' : World} (h : WR B C lb wb S L w) {r : Nat} {e : Ending} (k : RootP B S r w e w') : WR B C lb wb S L w' ∧ Frm S.D C w w' := by
  obtain ⟨_, k1, k2⟩ := k
  obtain ⟨lv, hl, hrow⟩ := h.l
  have low : ∀ g, C ≤ g → g ∉ S.dom := fun g hg hd => by have := (h.tw.blk hd).1; have := h.bc; omega
  have lt_of : ∀ {g : Nat} {o : Obj}, w.heap[g]? = some o → g < w.heap.size := fun hg => (Array.getElem?_eq_some_iff.1 hg).1
  refine ⟨⟨k1, h.bc, ⟨lv, (k2.block lb (lt_of hl) (low lb h.cl.1)).trans hl, World.ownsRow.keep hrow fun g hg => k2.block g (World.ownsRow.there hrow hg).2 (low g (World.ownsRow.there hrow hg).1)⟩, (k2.block wb (lt_of h.wv) (low wb h.cl.2.1)).trans h.wv, ⟨h.cl.1, h.cl.2.1, Nat.le_trans h.cl.2.2 k2.size⟩⟩, k2.mono h.cl.2.2 fun _ _ hd => hd⟩
/-- One node is appended. -/
theorem WR.more {B C lb wb : Nat} {S : SS} {L : List Nd} {w w1 w2 : World} (h : WR B C lb wb S L w) {lv nv : Value} (hl : w.heap[lb]? = some (.cells #[lv] 22 (0, 0))) (hrow : w.ownsRow C 58 4 lv L.length (nodeCells L)) (b1 : Below w.heap.size w w1) (g : w1.grownBy w2 lv.ownBlock) {x : Nd}
    (hn : w2.ownsRow C 58 4 nv (L.length + 1) (nodeCells L ++ x.cells)) : WR B C lb wb S (L ++ [x]) (w2.setCell ⟨lb, 0, none⟩ nv) ∧ Below C w (w2.setCell ⟨lb, 0, none⟩ nv) := by
  have lt_of : ∀ {g : Nat} {o : Obj}, w.heap[g]? = some o → g < w.heap.size := fun hg => (Array.getElem?_eq_some_iff.1 hg).1
  have b2 : Below C w w2 := (b1.mono h.cl.2.2).grown g (Nat.le_trans h.cl.2.2 b1.size) fun k e => (World.ownsRow.there hrow e).1
  have b3 : Below C w (w2.setCell ⟨lb, 0, none⟩ nv) := b2.setCell h.cl.1 _
  have ne : ∀ {k : Nat} {cs : Array Value} {T0 : TypeId}, w.heap[k]? = some (.cells cs T0 (0, 0)) → T0 ≠ 58 → some k ≠ lv.ownBlock := fun hk ht e => by
    obtain ⟨cur, hc⟩ := row_ty hrow e.symm
    rw [hk] at hc
    simp only [Option.some.injEq, Obj.cells.injEq] at hc
    exact ht hc.2.1
  have at2 : ∀ {k : Nat} {cs : Array Value} {T0 : TypeId}, w.heap[k]? = some (.cells cs T0 (0, 0)) → T0 ≠ 58 → w2.heap[k]? = some (.cells cs T0 (0, 0)) := fun hk ht => (g.block _ (Nat.lt_of_lt_of_le (lt_of hk) b1.size) (ne hk ht)).trans ((b1.block _ (lt_of hk)).trans hk)
  have hl2 := at2 hl (by decide)
  have nwl : wb ≠ lb := by rintro rfl; have := h.wv; rw [hl] at this; simp at this
  refine ⟨⟨h.tw.below (b3.mono h.bc), h.bc, ⟨nv, by rw [set_blk hl2]; rfl, ?_⟩, ?_, ⟨h.cl.1, h.cl.2.1, Nat.le_trans h.cl.2.2 b3.size⟩⟩, b3⟩
  · have e : nodeCells (L ++ [x]) = nodeCells L ++ x.cells := by simp [nodeCells]
    rw [e, List.length_append, List.length_singleton]
    refine World.ownsRow.keep hn fun k hk => Below.heap_setCell _ _ _ _ ?_
    show k ≠ lb
    rintro rfl
    obtain ⟨cur, hc⟩ := row_ty hn hk
    rw [hl2] at hc; simp at hc
  · rw [Below.heap_setCell _ _ _ _ nwl]; exact at2 h.wv (by decide)
theorem info44 : ∃ i, Tryz.prog.info? 58 = some i ∧ i.zero = some zeroNode ∧ i.size = 4 ∧ i.bytes = 40 := info_of' (by kernel_rfl)
def RsC (B C lb wb : Nat) (S : SS) (x : Nat) (t : T) : Prop := ∀ (L : List Nd) (w : World), WR B C lb wb S L w → L.length ≤ 100000 → Calls Tryz.prog 82 #[pv x, pv lb, pv wb] w (WrP B C lb wb S L (flatT t) w)
theorem res_full (B C lb wb : Nat) (S : SS) (x : Nat) (t : T) (L : List Nd) (w : World) (h : WR B C lb wb S L w) (hL : 4000 < L.length) (hL2 : L.length ≤ 100000) : Calls Tryz.prog 82 #[pv x, pv lb, pv wb] w (WrP B C lb wb S L (flatT t) w) := by
  obtain ⟨lv, hl, hrow⟩ := h.l
  obtain ⟨q, c, rfl⟩ := row_form hrow
  have l0 := cell_of_heap hl 0
  simp only [List.getElem?_toArray, List.getElem?_cons_zero] at l0
  have E : Hid (WrP B C lb wb S L (flatT t) w (.returned (.tuple #[])) w) := ⟨rfl, L, Wr.full hL, h, Frm.refl _ _ _⟩
  obtain ⟨n, hn⟩ : ∃ n, n = L.length := ⟨_, rfl⟩
  rw [← hn] at l0 hL hL2
  have t1 : decide ((4000 : Int) < (n : Int)) = true := by simp; omega
  clear h hl hrow hn
  unfold pv
  go_enter Tryz.func82, Tryz.ntmps82
  go_wp2
  first | go_end0 | skip
  exact E.out
end Go.Proofs.YtncifeeinogcnaaGreatDoor
