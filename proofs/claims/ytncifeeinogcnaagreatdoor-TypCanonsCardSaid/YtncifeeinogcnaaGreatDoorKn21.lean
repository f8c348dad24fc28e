/- Texts of this seat, one behind the other: UnI, VaA, VaB. -/
import Derived.Test.YtncifeeinogcnaaGreatDoorKn20
/- The contract of Unify. -/
set_option maxRecDepth 100000
namespace Go.Proofs.YtncifeeinogcnaaGreatDoor
open Go.RowKit Go.Lib Go.Maps Go.Proofs.TreeMath

theorem info40 : ∃ i, Tryz.prog.info? 40 = some i ∧ i.zero = some (.agg #[.int .i64 0, .slice none 0 0]) ∧ i.size = 2 ∧ i.bytes = 32 := info_of' (by kernel_rfl)
theorem tyB_var {v : Int} (h0 : 0 ≤ v) (h1 : v ≤ 1048576) : tyB [vN v] = true := by
  have : rightN (vN v) = true := by simp [rightN, vN, h0, h1]
  unfold tyB
  simp only [List.all_cons, List.all_nil, this, Bool.and_true]
  rfl
theorem rs_var (s : Int → T) (v : Int) : rs s [vN v] = flatT (s v) := by simp [rs, rs1, vN]
theorem self_iff {S : SS} {tr : Nat → T} {es : List (T × T)} (h : Core S tr es) {x : Nat} (hx : x ∈ S.dom) {v : Int} (hn : S.node x = vN v) : sg (S.gr tr) S.rep v = vT v ↔ S.rep x = x := by
  have hm := sg_met h.ok S.rep (x := x) hx (by show (S.node x).kind = 31; rw [hn]; rfl)
  have e1 : ((S.gr tr).node x).num = v := by show (S.node x).num = v; rw [hn]; rfl
  rw [e1] at hm
  rw [hm]
  constructor
  · intro e
    by_cases hk : ((S.gr tr).node (S.rep x)).kind = 31
    · rw [exT_var hk] at e
      have e2 : (S.gr tr).node (S.rep x) = vN v := congrArg Prod.fst e
      exact h.ok.uniq _ _ (h.sol.rin x hx) hx hk (by show (S.node x).kind = 31; rw [hn]; rfl) (by rw [e2, e1]; rfl)
    · rw [exT_con h.ok h.sol.rin h.acc hx hk] at e
      exact absurd (congrArg (fun t => t.1.kind) e) hk
  · intro e
    have hk : ((S.gr tr).node (S.rep x)).kind = 31 := by rw [e]; show (S.node x).kind = 31; rw [hn]; rfl
    rw [exT_var hk]
    show (S.node (S.rep x), F.nil) = vT v
    rw [e, hn]; rfl
set_option maxHeartbeats 4000000 in
theorem sunify_bad (sb : Nat) (va vb : Value) (la lb : List Nd) (w : World) (ha : NodesAt w va la) (hb : NodesAt w vb lb) (na1 : la.length ≤ 1000000) (nb1 : lb.length ≤ 1000000) (sa : SmallN la) (sB : SmallN lb) (hbad : tyB la = false ∨ tyB lb = false) :
    Calls Tryz.prog 41 #[pv sb, va, vb] w (fun e w' => e = .returned (.int .i64 90) ∧ Below w.heap.size w w') := by
  have CA := Lib.hid (check_any va la w ha na1 sa)
  unfold CkP at CA
  cases hta : tyB la with
  | false =>
    rw [hta] at CA
    clear ha hb na1 nb1 sa sB hta hbad
    unfold pv
    go_enter Tryz.func41, Tryz.ntmps41
    go_wp2_with fail
    refine CA.out.mono ?_
    rintro e w1 ⟨rfl, b1⟩
    have B1 := Lib.hid b1
    clear b1 CA
    go_wp2
    go_ret
    exact ⟨rfl, B1.out⟩
  | true =>
    have htb : tyB lb = false := by
      rcases hbad with h | h
      · rw [hta] at h; exact absurd h (by decide)
      · exact h
    have CB := Lib.hid (fun W (hW : Below w.heap.size w W) => check_any vb lb W (hb.below hW) nb1 sB)
    unfold CkP at CB
    rw [hta] at CA
    rw [htb] at CB
    clear ha hb na1 nb1 sa sB hta htb hbad
    unfold pv
    go_enter Tryz.func41, Tryz.ntmps41
    go_wp2_with fail
    refine CA.out.mono ?_
    rintro e w1 ⟨rfl, b1⟩
    have B1 := Lib.hid b1
    clear b1 CA
    go_wp2_with fail
    refine (CB.out _ B1.out).mono ?_
    rintro e w2 ⟨rfl, b2⟩
    have B2 := Lib.hid (B1.out.trans (b2.mono B1.out.size))
    clear b2 CB
    go_wp2
    go_ret
    exact ⟨rfl, B2.out⟩
theorem uy_bad (va vb : Value) (la lb : List Nd) (w : World) (ha : NodesAt w va la) (hb : NodesAt w vb lb) (na1 : la.length ≤ 1000000) (nb1 : lb.length ≤ 1000000) (sa : SmallN la) (sB : SmallN lb) (hbad : tyB la = false ∨ tyB lb = false) : Calls Tryz.prog 22 #[va, vb] w (UyP la lb w) := by
  have NEW := Lib.hid (newstore_any 0 w)
  have UN := Lib.hid (fun W (b : Below w.heap.size w W) => sunify_bad (w.heap.size + 1) va vb la lb W (ha.below b) (hb.below b) na1 nb1 sa sB hbad)
  have E : Hid (∀ w', Below w.heap.size w w' → UyP la lb w (.returned (.tuple #[.slice none 0 0, .int .i64 90])) w') := Lib.hid fun w' b => .form hbad rfl b
  unfold pv at NEW UN
  clear ha hb na1 nb1 sa sB hbad
  go_enter Tryz.func22, Tryz.ntmps22
  go_wp2_with fail
  refine Calls.mono NEW.out ?_
  rintro e w1 ⟨rfl, _, b1⟩
  have B1 := Lib.hid b1
  clear b1 NEW
  go_wp2_with fail
  refine Calls.mono (UN.out _ B1.out) ?_
  rintro e w2 ⟨rfl, b2⟩
  have B2 := Lib.hid (B1.out.trans (b2.mono B1.out.size))
  clear b2 UN
  go_wp2
  go_ret2
  exact E.out _ B2.out
set_option maxHeartbeats 4000000 in
theorem uy_good (va vb : Value) (la lb : List Nd) (w : World) (ha : NodesAt w va la) (hb : NodesAt w vb lb) (na1 : la.length ≤ 1000000) (nb1 : lb.length ≤ 1000000) (sa : SmallN la) (sB : SmallN lb) (hta : tyB la = true) (htb : tyB lb = true) : Calls Tryz.prog 22 #[va, vb] w (UyP la lb w) := by
  have off : ∀ (v : Value) (l : List Nd), NodesAt w v l → 0 < l.length → ∀ b o m c, v = .slice (some ⟨b, o, none⟩) m c → b ∉ S0.dom ∧ b ≠ w.heap.size := fun v l h h0 b o m c e => by
    obtain ⟨g1, p, cap, e2, g2, g3, g4⟩ := h
    obtain ⟨b', off', rfl, gb, gc⟩ := g4 (by omega)
    rw [e2] at e
    simp only [Value.slice.injEq, Option.some.injEq, Addr.mk.injEq, and_true] at e
    exact ⟨fun h => n1 h, by omega⟩
  have la0 : 0 < la.length ∧ la.length ≤ 4000 := by
    obtain ⟨n, k, e, _, hz, _⟩ := ty_tree hta
    rw [e, List.length_cons, F.flat_length]; omega
  have lb0 : 0 < lb.length ∧ lb.length ≤ 4000 := by
    obtain ⟨n, k, e, _, hz, _⟩ := ty_tree htb
    rw [e, List.length_cons, F.flat_length]; omega
  have NEW := Lib.hid (newstore_any 0 w)
  have UN := Lib.hid (fun W (st : ST W.heap.size W S0 (fun _ => vT 0) [] (w.heap.size + 1) w.heap.size 0 (.map []) 0 0) (b : Below w.heap.size w W) =>
    sunify_any S0 (fun _ => vT 0) [] (w.heap.size + 1) w.heap.size 0 (.map []) 0 0 va vb la lb W st (ha.below b) (hb.below b) (off va la ha la0.1) (off vb lb hb lb0.1) na1 nb1 sa sB (by decide) (by omega) (by omega))
  have LL := Lib.hid (And.intro la0 lb0)
  have TT := Lib.hid (And.intro hta htb)
  clear ha hb na1 nb1 sa sB hta htb off la0 lb0
  unfold pv at NEW UN
  go_enter Tryz.func22, Tryz.ntmps22
  go_wp2_with fail
  refine Calls.mono NEW.out ?_
  rintro e w1 ⟨rfl, st1, b1⟩
  have B1 := Lib.hid b1
  have ST1 := Lib.hid st1
  clear b1 NEW st1
  go_wp2_with fail
  refine Calls.mono (UN.out _ ST1.out B1.out) ?_
  intro e w2 hu
  clear UN
  cases hu with
  | form hb he b => exact absurd hb (by rw [TT.out.1, TT.out.2]; decide)
  | clash na nb ka kb ea eb oa ob he hn fr =>
    subst he
    have E : Hid (UyP la lb w (.returned (.tuple #[.slice none 0 0, .int .i64 91])) w2) := .clash na nb ka kb ea eb oa ob rfl hn (B1.out.trans (fr.below B1.out.size fun k hk hd => by
      rcases hd with h | rfl | rfl
      · exact n1 h
      · omega
      · omega))
    clear ea eb oa ob hn fr ST1
    go_wp2
    go_ret2
    exact E.out
  | ok na nb ka kb ea eb oa ob he S tr m D st hw hm hd fr =>
    subst he
    have B2 := Lib.hid (B1.out.trans (fr.below B1.out.size fun k hk hd => by
      rcases hd with h | rfl | rfl
      · exact n1 h
      · omega
      · omega))
    have NEWD := Lib.hid (show ∀ x ∈ S.dom, w.heap.size ≤ x from fun x hx => by
      rcases hd x hx with h | h
      · exact (n1 h).elim
      · have := B1.out.size; omega)
    have MGU := Lib.hid (sol_mgu st.core.ok st.core.sol st.core.acc)
    have EAB := Lib.hid (And.intro ea (And.intro eb (And.intro oa ob)))
    have M8 := Lib.hid (show m ≤ 8000 by have := LL.out; omega)
    have H2 := Lib.hid st
    obtain ⟨sb, hsb⟩ : ∃ sb, sb = w.heap.size + 1 := ⟨_, rfl⟩
    obtain ⟨mb, hmb⟩ : ∃ mb, mb = w.heap.size := ⟨_, rfl⟩
    rw [← hsb, ← hmb] at H2
    rw [← hsb]
    have c1 := cell_of_heap H2.out.sbk 1
    simp only [List.getElem?_toArray, List.getElem?_cons_succ, List.getElem?_cons_zero] at c1
    have KEYS := Lib.hid (keys_any (some mb) w2)
    have SORT := Lib.hid (sorted_any mb m w2.heap.size D PE (w2.alloc (.cells #[.map (some mb)] 92)) (H2.out.map.alloc _) (by have := H2.out.map.size_le; have := M8.out; unfold maxLen; omega) (by have := H2.out.map.size_le; have := M8.out; omega) (by simp) (by simp))
    have HMB := Lib.hid (And.intro hsb hmb)
    clear st hw hm hd fr ea eb oa ob ST1 hsb hmb
    go_wp2_with fail
    refine Calls.mono KEYS.out ?_
    rintro e w3 ⟨rfl, rfl⟩
    clear KEYS
    go_wp2_with fail
    refine Calls.mono SORT.out ?_
    rintro e w4 ⟨kv, ss, rfl, hperm, hrow, _, b4⟩
    obtain ⟨kl, km, kz⟩ := store_keys H2.out.map hperm
    obtain ⟨ks, hks⟩ : ∃ ks, ks = ss.mergeSort (fun x y => decide (x ≤ y)) := ⟨_, rfl⟩
    have hlen : ss.length = ks.length := by rw [hks, List.length_mergeSort]
    rw [← hks, hlen] at hrow
    rw [← hks] at kl km kz
    obtain ⟨s, hs⟩ : ∃ s, s = sg (S.gr tr) S.rep := ⟨_, rfl⟩
    have b24 : Below w2.heap.size w2 w4 := ((Below.refl w2.heap.size w2).alloc (Nat.le_refl _) _).trans (b4.mono (by simp))
    have U0 := Lib.hid (show UI w.heap.size w S tr [((na, ka), (nb, kb))] sb mb m D 0 2 s ks kv 0 [] (.slice none 0 0) w4 from
      ⟨(H2.out.frm b24).raise b24.size (Nat.le_refl _), hrow.base (by have := B2.out.size; simp; omega), BG.nil _ _, rfl, by simp, fun j hj => by omega, B2.out.trans (b24.mono B2.out.size), NEWD.out, by have := B2.out.size; have := b24.size; omega⟩)
    obtain ⟨kq, kc, rfl⟩ := row_form hrow
    have KM := Lib.hid km
    have KL := Lib.hid kl
    have KZ := Lib.hid (show ks.length ≤ 8000 from by
      have h1 := H2.out.map.size_le
      have h2 := M8.out
      have h3 : (intKeys D).length = Maps.size D := by obtain ⟨es, e⟩ := H2.out.map.isMap; rw [e]; simp [intKeys, Maps.size]
      omega)
    obtain ⟨nk, hnk⟩ : ∃ nk, nk = ks.length := ⟨_, rfl⟩
    rw [← hnk] at U0 KZ ⊢
    have HNK := Lib.hid hnk
    have HS := Lib.hid hs
    have hnk8 : nk ≤ 8000 := KZ.out
    have OUT : Hid (∀ v, v ∉ ks → s v = vT v) := Lib.hid fun v hv => by
      rw [hs]
      refine sg_not S.rep fun ⟨x, hx, hn⟩ => hv ((km v).2 ?_)
      have hn' : S.node x = vN v := hn
      have := (H2.out.key x hx (by rw [hn']; rfl)).1
      rw [hn'] at this
      exact this
    have RNG : Hid (∀ v, v ∈ ks → 0 ≤ v ∧ v ≤ 1048576) := Lib.hid fun v hv => by
      obtain ⟨x, hx, hn⟩ := H2.out.only v ((km v).1 hv)
      have := H2.out.rng x hx (by rw [hn]; rfl)
      rw [hn] at this
      exact this
    clear kl km kz hks hlen hs hrow b4 b24 hperm hnk SORT
    go_wp2
    go_loopw [8, 29] (fun l i wr => ∃ (j : Nat) (bs : List BT), j ≤ nk ∧ i = .int .i64 j ∧ Hid (UI w.heap.size w S tr [((na, ka), (nb, kb))] sb mb m D 0 2 s ks (.slice kq nk kc) j bs l wr)) (fun _ i _ => nk - (intOf i).toNat)
    case atStart => exact ⟨0, [], Nat.zero_le _, rfl, U0⟩
    case round =>
      obtain ⟨j, bs, hj, rfl, hU⟩ := hrel
      clear U0
      by_cases hlt : j < nk
      · obtain ⟨v, hv⟩ : ∃ v, v = ks.getD j 0 := ⟨_, rfl⟩
        have hvm : v ∈ ks := by
          rw [hv, List.getD_eq_getElem?_getD, List.getElem?_eq_getElem (by rw [← HNK.out]; exact hlt)]
          exact List.getElem_mem _
        obtain ⟨r0, r1⟩ := RNG.out v hvm
        obtain ⟨x, hx, hnx, hlk⟩ := hU.out.st.look1 v ((KM.out v).1 hvm) r0 r1
        obtain ⟨g1, q', c', e', g2, g3, g4⟩ := SliceAt.of_owns hU.out.row
        obtain ⟨b, o, rfl, gb, gc⟩ := g4 (by rw [← HNK.out]; omega)
        simp only [Value.slice.injEq] at e'
        obtain ⟨rfl, e1, rfl⟩ := e'
        have k0 : wr.cell? ⟨b, o + j, none⟩ = some (.int .i64 v) := gc j _ (by
          rw [List.getElem?_map, List.getElem?_eq_getElem (by rw [← HNK.out]; exact hlt), hv, List.getD_eq_getElem?_getD, List.getElem?_eq_getElem (by rw [← HNK.out]; exact hlt)]; rfl)
        have c2 := cell_of_heap hU.out.st.sbk 1
        simp only [List.getElem?_toArray, List.getElem?_cons_succ, List.getElem?_cons_zero] at c2
        have ROOT := Lib.hid (root_any wr.heap.size S x wr hx hU.out.st.tw)
        have HX := Lib.hid hx
        have HV := Lib.hid hv
        have HNX := Lib.hid hnx
        have HR := Lib.hid (And.intro r0 r1)
        have RIN := Lib.hid (hU.out.st.core.sol.rin x hx)
        unfold pv at ROOT
        clear g1 g2 g3 g4 gb gc e1 hv hvm hx hnx r0 r1 c1
        go_wp2_with fail
        refine Calls.mono ROOT.out ?_
        rintro e w5 ⟨rfl, tw5, f5⟩
        unfold pv
        have U5 := Lib.hid (hU.out.frm f5 tw5)
        have EQ := eql_terms tw5 RIN.out HX.out
        have SELF := self_iff hU.out.st.core HX.out HNX.out
        rw [← HS.out] at SELF
        by_cases e : S.rep x = x
        · rw [decide_eq_true e] at EQ
          have U6 := Lib.hid (U5.out.skip (by rw [← HNK.out]; exact hlt) (by rw [← HV.out]; exact SELF.2 e))
          clear hU tw5 f5 SELF e U5 RIN ROOT
          go_wp2
          go_roundw
          case rel => exact ⟨j + 1, bs, by omega, by go_num, U6⟩
          case measure => simp [intOf]; omega
        · rw [decide_eq_false e] at EQ
          have NE := Lib.hid (show s v ≠ vT v from fun h => e (SELF.1 h))
          have VAR := Lib.hid (variable_any v w5)
          clear hU tw5 f5 SELF e RIN ROOT k0 c2 hlk
          go_wp2_with fail
          refine Calls.mono VAR.out ?_
          rintro e w6 ⟨b6, n6, c6, rfl, hb6, hv6, b56⟩
          have U6 := Lib.hid (U5.out.below b56)
          have RES := Lib.hid (resolve_any S tr [((na, ka), (nb, kb))] sb mb m D 0 2 (.slice (some ⟨b6, 0, none⟩) n6 c6) [vN v] w6 U6.out.st hv6 (by simp) (fun f hf => by rw [List.mem_singleton] at hf; rw [hf]; exact Nat.zero_le _) (fun b' o' m' c' e hd => by
            simp only [Value.slice.injEq, Option.some.injEq, Addr.mk.injEq, and_true] at e
            have h1 := (U5.out.st.tw.blk hd).1
            omega))
          rw [← HS.out] at RES
          have RESC := RES.out
          unfold pv at RESC
          have RES := Lib.hid RESC
          clear hb6 hv6 b56 VAR U5 EQ RESC
          go_wp2_with fail
          refine Calls.mono RES.out ?_
          intro e w7 hr
          clear RES
          cases hr with
          | form ht he b => exact absurd ht (by rw [tyB_var HR.out.1 HR.out.2]; decide)
          | great ht hg he fr tw =>
            subst he
            rw [rs_var, flatT_length] at hg
            have U7 := U6.out.frm fr tw
            have E : Hid (UyP la lb w (.returned (.tuple #[.slice none 0 0, .int .i64 92])) w7) := .great na nb ka kb EAB.out.1 EAB.out.2.1 EAB.out.2.2.1 EAB.out.2.2.2 rfl s (HS.out ▸ MGU.out) v hg U7.be
            clear ht hg fr tw U7
            go_wp2
            go_ret2
            exact E.out
          | ok ht hg tv he own fr tw =>
            subst he
            rw [rs_var] at own hg
            rw [flatT_length] at hg
            have U7 := Lib.hid (U6.out.frm fr tw)
            have OWN := Lib.hid (World.ownsRow.base own U6.out.bw)
            have HG := Lib.hid hg
            obtain ⟨q7, c7, rfl⟩ := row_form own
            obtain ⟨n7, hn7⟩ : ∃ n7, n7 = (flatT (s v)).length := ⟨_, rfl⟩
            rw [← hn7] at OWN ⊢
            have HN7 := Lib.hid hn7
            obtain ⟨ql, cl, hql⟩ := row_form U7.out.bg.1
            obtain ⟨kb0, hkb⟩ : ∃ k, k = bs.length := ⟨_, rfl⟩
            rw [← hkb] at hql
            subst hql
            have HKB := Lib.hid hkb
            have hkle : kb0 ≤ j := by have := U7.out.len; omega
            obtain ⟨j0, j1, j2, j3, j4⟩ := info40
            have HJ := Lib.hid (And.intro j1 (And.intro j2 (And.intro j3 j4)))
            have HMX := Lib.hid (show kb0 + 1 ≤ maxLen ∧ (kb0 + 1) * 32 ≤ 140737488355328 from ⟨by unfold maxLen; omega, by omega⟩)
            have AL2 : Below w7.heap.size w7 (w7.alloc (.cells #[.int .i64 v, .slice q7 n7 c7] 40)) := (Below.refl w7.heap.size w7).alloc (Nat.le_refl _) _
            have ALH := Lib.hid AL2
            have HLC := Lib.hid (lit_cells w7 #[.int .i64 v, .slice q7 n7 c7] 40)
            have ROWA := Lib.hid (show (w7.alloc (.cells #[.int .i64 v, .slice q7 n7 c7] 40)).ownsRow w.heap.size 40 2 (.slice ql kb0 cl) kb0 (btCells bs) from by
              have := U7.out.bg.1
              rw [← hkb] at this
              exact World.ownsRow.keep this fun g hg => AL2.block g (World.ownsRow.there this hg).2)
            clear ht hg own fr tw hn7 hkb j1 j2 j3 j4 AL2 U6
            go_wp2_with (at_builtin; refine wpList_append_any _ rfl _ _ 35 rfl w.heap.size 40 j0 (.agg #[.int .i64 0, .slice none 0 0]) 2 32 Tryz.underlying35 HJ.out.1 HJ.out.2.1 HJ.out.2.2.1 HJ.out.2.2.2 rfl (by decide) (.slice ql kb0 cl) kb0 (btCells bs) rfl ROWA.out (some ⟨w7.heap.size, 0, none⟩) 1 1 [.int .i64 v, .slice q7 n7 c7] rfl rfl (fun _ => ⟨_, rfl, CellsIn.at HLC.out⟩) (by intro u hu; simp at hu; rcases hu with rfl | rfl <;> rfl) HMX.out.1 HMX.out.2 (Nat.le_trans U7.out.bw ALH.out.size) ?_; intro p' cap' w8 hown hgrow hblk; have RN := Lib.hid hown; have GN := Lib.hid hgrow; clear hown hgrow hblk)
            go_roundw
            case rel =>
              have M := U7.out.more (by rw [← HNK.out]; exact hlt) (by rw [← HV.out]; exact NE.out) (by rw [← HV.out]; exact HG.out) ALH.out GN.out (nv := .slice p' (kb0 + 1) cap') (tv := .slice q7 n7 c7) (by rw [← HV.out, ← HN7.out]; exact OWN.out) (by rw [← HKB.out, ← HV.out]; exact RN.out)
              exact ⟨j + 1, _, by omega, by go_num, Lib.hid M⟩
            case measure => simp [intOf]; omega
      · obtain rfl : j = nk := by omega
        have et : ks.take j = ks := List.take_of_length_le (by rw [← HNK.out]; omega)
        have eqs := hU.out.eq
        rw [et] at eqs
        have E : Hid (UyP la lb w (.returned (.tuple #[u8, .int .i64 0])) wr) := .ok na nb ka kb EAB.out.1 EAB.out.2.1 EAB.out.2.2.1 EAB.out.2.2.2 s (HS.out ▸ MGU.out) ks KL.out (fun v hv => Classical.byContradiction fun hn => hv (OUT.out v hn)) RNG.out (fun v => by
          by_cases hm : v ∈ ks
          · obtain ⟨i, hi, he⟩ := List.getElem_of_mem hm
            have := hU.out.sm i (by rw [HNK.out]; exact hi)
            rw [List.getD_eq_getElem?_getD, List.getElem?_eq_getElem hi, Option.getD_some, he] at this
            exact this
          · rw [OUT.out v hm]; simp [szT, vT, F.sz]) bs u8 eqs (by rw [← HNK.out]; exact hnk8) rfl hU.out.bg hU.out.be
        clear hU hlt et eqs
        go_wp2
        go_ret2
        exact E.out
theorem uy_any (va vb : Value) (la lb : List Nd) (w : World) (ha : NodesAt w va la) (hb : NodesAt w vb lb) (na1 : la.length ≤ 1000000) (nb1 : lb.length ≤ 1000000) (sa : SmallN la) (sB : SmallN lb) : Calls Tryz.prog 22 #[va, vb] w (UyP la lb w) := by
  cases h1 : tyB la with
  | false => exact uy_bad va vb la lb w ha hb na1 nb1 sa sB (.inl h1)
  | true =>
    cases h2 : tyB lb with
    | false => exact uy_bad va vb la lb w ha hb na1 nb1 sa sB (.inr h2)
    | true => exact uy_good va vb la lb w ha hb na1 nb1 sa sB h1 h2
end Go.Proofs.YtncifeeinogcnaaGreatDoor
/- The contract of Vars. -/
set_option maxRecDepth 100000
namespace Go.Proofs.YtncifeeinogcnaaGreatDoor
open Go.RowKit Go.Lib Go.Maps Go.Proofs.TreeMath

def vstep (acc : List Int) (n : Nd) : List Int := if n.kind = 31 ∧ n.num ∉ acc then acc ++ [n.num] else acc
/-- The variables of nodes, each once. -/
def varsN (t : List Nd) : List Int := t.foldl vstep []
theorem varsN_take (t : List Nd) (i : Nat) (hi : i < t.length) : varsN (t.take (i + 1)) = vstep (varsN (t.take i)) (t.getD i default) := by
  unfold varsN
  rw [take_one t i hi, List.foldl_append]
  rfl
theorem varsN_snoc (t : List Nd) (n : Nd) : varsN (t ++ [n]) = vstep (varsN t) n := by unfold varsN; rw [List.foldl_append]; rfl
theorem info3 : ∃ i, Tryz.prog.info? 3 = some i ∧ i.zero = some (.int .i64 0) ∧ i.size = 1 ∧ i.bytes = 8 := info_of' (by kernel_rfl)
theorem zero66 (w : World) : (zeroValue 80).run Tryz.prog w = .ok (.agg #[]) w := by kernel_rfl
structure VI (w : World) (mb : Nat) (D : DM) (acc : List Int) (lv : Value) (i : Nat) (wr : World) : Prop where
  map : wr.ownsMap Tryz.prog 2 unitElem mb i D
  has : ∀ v, has D (kI v) = true ↔ v ∈ acc
  row : wr.ownsRow w.heap.size 3 1 lv acc.length (intCells acc)
  len : acc.length ≤ i
  be : Below w.heap.size w wr
  mb : w.heap.size ≤ mb
theorem VI.below {w : World} {mb : Nat} {D : DM} {acc : List Int} {lv : Value} {i : Nat} {wr w2 : World} (h : VI w mb D acc lv i wr) (b : Below wr.heap.size wr w2) : VI w mb D acc lv i w2 := by
  refine ⟨?_, h.has, World.ownsRow.keep h.row fun g hg => b.block g (World.ownsRow.there h.row hg).2, h.len, h.be.trans (b.mono h.be.size), h.mb⟩
  obtain ⟨es', cl, hb, r⟩ := h.map
  exact ⟨es', cl, (b.block mb (Array.getElem?_eq_some_iff.1 hb).1).trans hb, r⟩
theorem VI.skip {w : World} {mb : Nat} {D : DM} {acc : List Int} {lv : Value} {i : Nat} {wr : World} (h : VI w mb D acc lv i wr) : VI w mb D acc lv (i + 1) wr := ⟨h.map.mono (by omega), h.has, h.row, by have := h.len; omega, h.be, h.mb⟩
theorem VI.more {w : World} {mb : Nat} {D : DM} {acc : List Int} {lv nv : Value} {i : Nat} {wr w1 w3 w4 w5 : World} {v : Int} (h : VI w mb D acc lv i wr) (b1 : Below wr.heap.size wr w1) (g3 : w1.grownBy w3 (some mb)) (m3 : w3.ownsMap Tryz.prog 2 unitElem mb (i + 1) (D.put (kI v) (.agg []))) (b4 : Below w3.heap.size w3 w4) (g5 : w4.grownBy w5 lv.ownBlock)
    (hn : w5.ownsRow w.heap.size 3 1 nv (acc.length + 1) (intCells acc ++ [.int .i64 v])) : VI w mb (D.put (kI v) (.agg [])) (acc ++ [v]) nv (i + 1) w5 := by
  have isM : IsMap D := h.map.isMap
  refine ⟨?_, fun u => ?_, ?_, by rw [List.length_append, List.length_singleton]; have := h.len; omega, ?_, h.mb⟩
  · obtain ⟨es', cl, hb, r⟩ := m3
    have hlt := (Array.getElem?_eq_some_iff.1 hb).1
    refine ⟨es', cl, ((g5.block mb (Nat.lt_of_lt_of_le hlt b4.size) fun e => ?_).trans (b4.block mb hlt)).trans hb, r⟩
    obtain ⟨cur, hc⟩ := row_ty h.row e.symm
    obtain ⟨es0, cl0, hb0, _⟩ := h.map
    rw [hc] at hb0; simp at hb0
  · by_cases e : u = v
    · subst e
      exact ⟨fun _ => by simp, fun _ => has_put_same isM (kI_key _) _⟩
    · rw [has_put_other (fun e2 => e (kI_inj e2)), h.has u]
      simp [e]
  · rw [List.length_append, List.length_singleton, show intCells (acc ++ [v]) = intCells acc ++ [.int .i64 v] by simp [intCells]]
    exact hn
  · have hz := h.be.size
    exact ((((h.be.trans (b1.mono hz)).grown g3 (Nat.le_trans hz b1.size) fun k e => by simp at e; subst e; exact h.mb).trans (b4.mono (Nat.le_trans (Nat.le_trans hz b1.size) g3.size))).grown g5 (Nat.le_trans (Nat.le_trans (Nat.le_trans hz b1.size) g3.size) b4.size) fun k e => (World.ownsRow.there h.row e).1)
def VaP (t : List Nd) (w : World) (e : Ending) (w' : World) : Prop := ∃ lv, e = .returned lv ∧ w'.ownsRow w.heap.size 3 1 lv (if tyB t = true then varsN t else []).length (intCells (if tyB t = true then varsN t else [])) ∧ Below w.heap.size w w'
end Go.Proofs.YtncifeeinogcnaaGreatDoor
/- The contract of Vars: the walk. -/
set_option maxRecDepth 100000
namespace Go.Proofs.YtncifeeinogcnaaGreatDoor
open Go.RowKit Go.Lib Go.Maps Go.Proofs.TreeMath

set_option maxHeartbeats 4000000 in
theorem vars_any (tv : Value) (t : List Nd) (w : World) (hns : NodesAt w tv t) (hl : t.length ≤ 1000000) (sm : SmallN t) : Calls Tryz.prog 15 #[tv] w (VaP t w) := by
  have CK := Lib.hid (check_any tv t w hns hl sm)
  unfold CkP at CK
  cases hty : tyB t with
  | false =>
    have E : Hid (∀ w', Below w.heap.size w w' → VaP t w (.returned (.slice none 0 0)) w') := Lib.hid fun w' b => ⟨_, rfl, by rw [hty]; exact World.ownsRow_nil _ _ _ _, b⟩
    rw [hty] at CK
    clear hns hl sm hty
    go_enter Tryz.func15, Tryz.ntmps15
    go_wp2_with fail
    refine CK.out.mono ?_
    rintro e w1 ⟨rfl, b1⟩
    have B1 := Lib.hid b1
    clear b1 CK
    go_wp2
    go_ret
    exact E.out _ B1.out
  | true =>
    rw [hty] at CK
    have hty2 := hty
    unfold tyB at hty2
    simp only [Bool.and_eq_true, decide_eq_true_eq] at hty2
    have l4 : t.length ≤ 4000 := hty2.1.1
    have RT := Lib.hid hty2.2
    obtain ⟨q, c, rfl⟩ : ∃ q c, tv = .slice q t.length c := by obtain ⟨_, q, c, e, _⟩ := hns; exact ⟨q, c, e⟩
    have START : Hid (∀ w1, Below w.heap.size w w1 → VI w w1.heap.size (.map []) [] (.slice none 0 0) 0 (w1.alloc (.map #[] 0))) := Lib.hid fun w1 b1 =>
      ⟨World.ownsMap_made w1 Tryz.prog 2 unitElem, fun v => by rw [has_none]; simp, World.ownsRow_nil _ _ _ _, Nat.le_refl _, b1.trans ((Below.refl w1.heap.size w1).alloc (Nat.le_refl _) _ |>.mono b1.size), b1.size⟩
    have NS := Lib.hid (fun W (b : Below w.heap.size w W) => hns.below b)
    obtain ⟨l, hlen⟩ : ∃ l, l = t.length := ⟨_, rfl⟩
    have HL := Lib.hid hlen
    rw [← hlen] at CK NS l4 ⊢
    have HTY := Lib.hid hty
    have hmm := @run_makeMap Tryz.prog
    clear hns hl sm hty hty2 hlen
    go_enter Tryz.func15, Tryz.ntmps15
    go_wp2_with fail
    refine CK.out.mono ?_
    rintro e w1 ⟨rfl, b1⟩
    have V0 := Lib.hid (START.out w1 b1)
    obtain ⟨mb, hmb⟩ : ∃ mb, mb = w1.heap.size := ⟨_, rfl⟩
    clear b1 CK START
    go_wp2
    rw [← hmb] at V0 ⊢
    go_loopw [3, 15] (fun lv i wr => ∃ j : Nat, j ≤ l ∧ i = .int .i64 j ∧ ∃ D, Hid (VI w mb D (varsN (t.take j)) lv j wr)) (fun _ i _ => l - (intOf i).toNat)
    case atStart => exact ⟨0, Nat.zero_le _, rfl, _, V0⟩
    case round =>
      obtain ⟨j, hj, rfl, D, hV⟩ := hrel
      clear V0 hmb
      by_cases hlt : j < l
      · obtain ⟨n, hn⟩ : ∃ n, n = t.getD j default := ⟨_, rfl⟩
        obtain ⟨g1, q', c', e', g2, g3, g4⟩ := NS.out wr hV.out.be
        obtain ⟨b, o, rfl, gb, gc⟩ := g4 (by rw [← HL.out]; omega)
        simp only [Value.slice.injEq] at e'
        obtain ⟨rfl, hlx, rfl⟩ := e'
        obtain ⟨a0, a1, a2, a3⟩ := CellsIn.node gc j (by rw [← HL.out]; exact hlt)
        rw [← hn] at a0 a1 a2 a3
        have hr : rightN n = true := List.all_eq_true.1 RT.out n (by
          rw [hn, List.getD_eq_getElem?_getD, List.getElem?_eq_getElem (by rw [← HL.out]; exact hlt)]
          exact List.getElem_mem _)
        obtain ⟨⟨r0, r1⟩, _, _⟩ := right_num hr
        have hz1 := zero66
        obtain ⟨u, ps, hlk, hu⟩ := (hV.out.map.alloc (.cells #[.int .i64 n.kind, .string n.text, .int .i64 n.num, .int .i64 n.kids] 58)).look_ok law2 Tryz.underlying79 (zero66 _) (zd := .agg []) (zp := []) unitElem_mk (key2 n.num (by omega) (by omega))
        obtain ⟨rfl, _⟩ := unitElem_inv hu
        have STEP := Lib.hid (varsN_take t j (by rw [← HL.out]; exact hlt))
        rw [← hn] at STEP
        have HAS := hV.out.has n.num
        obtain ⟨hb, hhb⟩ : ∃ hb, hb = has D (kI n.num) := ⟨_, rfl⟩
        rw [← hhb] at hlk HAS
        have BA := Lib.hid (below_two wr (.cells #[.int .i64 n.kind, .string n.text, .int .i64 n.num, .int .i64 n.kids] 58) (.cells #[] 80))
        by_cases hp : n.kind = 31 ∧ hb = false
        · obtain ⟨hk, rfl⟩ := hp
          have t1 : (n.kind == 31) = true := by simpa using hk
          have hnew : n.num ∉ varsN (t.take j) := fun hm => absurd (HAS.2 hm) (by decide)
          rw [show vstep (varsN (t.take j)) n = varsN (t.take j) ++ [n.num] by unfold vstep; rw [if_pos ⟨hk, hnew⟩]] at STEP
          obtain ⟨acc, hacc⟩ : ∃ acc, acc = varsN (t.take j) := ⟨_, rfl⟩
          rw [← hacc] at hV STEP
          obtain ⟨w3, hup, hm3, hg3⟩ := ((hV.out.map.alloc (.cells #[.int .i64 n.kind, .string n.text, .int .i64 n.num, .int .i64 n.kids] 58)).alloc (.cells #[] 80)).update law2 Tryz.underlying79 (by unfold maxLen; omega) (key2 n.num (by omega) (by omega)) unitElem_mk
          have hnb2 : ((wr.alloc (.cells #[.int .i64 n.kind, .string n.text, .int .i64 n.num, .int .i64 n.kids] 58)).alloc (.cells #[] 80)).heap[wr.heap.size]? = some (.cells #[.int .i64 n.kind, .string n.text, .int .i64 n.num, .int .i64 n.kids] 58 (0, 0)) := by
            rw [Below.heap_alloc _ _ _ (by simp)]; exact alloc_top wr _
          have hmlt : mb < wr.heap.size := hV.out.map.lt
          have hn3 : w3.heap[wr.heap.size]? = some (.cells #[.int .i64 n.kind, .string n.text, .int .i64 n.num, .int .i64 n.kids] 58 (0, 0)) := (hg3.block wr.heap.size (by simp; omega) (by simp; omega)).trans hnb2
          obtain ⟨nb, hnb⟩ : ∃ nb, nb = wr.heap.size := ⟨_, rfl⟩
          have c2 := cell_of_heap hn3 2
          simp only [List.getElem?_toArray, List.getElem?_cons_zero, List.getElem?_cons_succ] at c2
          obtain ⟨ql, cl, hql⟩ := row_form hV.out.row
          obtain ⟨k, hkl⟩ : ∃ k, k = acc.length := ⟨_, rfl⟩
          rw [← hkl] at hql
          subst hql
          have HKL := Lib.hid hkl
          have hkj : k ≤ j := by have := hV.out.len; omega
          have AL2 : Below w3.heap.size w3 (w3.alloc (.cells #[.int .i64 n.num] 3)) := (Below.refl w3.heap.size w3).alloc (Nat.le_refl _) _
          have ROWA := Lib.hid (show (w3.alloc (.cells #[.int .i64 n.num] 3)).ownsRow w.heap.size 3 1 (.slice ql k cl) k (intCells acc) from by
            have hrow := hV.out.row
            rw [← hkl] at hrow
            refine World.ownsRow.keep hrow fun g hg => ?_
            have hlt2 := (World.ownsRow.there hrow hg).2
            have e3 : w3.heap[g]? = wr.heap[g]? := (hg3.block g (by simp; omega) fun e => by
              simp only [Option.some.injEq] at e
              subst e
              obtain ⟨cur, hc⟩ := row_ty hrow hg
              obtain ⟨es0, cl0, hb0, _⟩ := hV.out.map
              rw [hc] at hb0; simp at hb0).trans (BA.out.block g hlt2)
            exact (AL2.block g (by have := hg3.size; simp at this; omega)).trans e3)
          have ALH := Lib.hid AL2
          have HLC := Lib.hid (lit_cells w3 #[.int .i64 n.num] 3)
          obtain ⟨j0, j1, j2, j3, j4⟩ := info3
          have HJ := Lib.hid (And.intro j1 (And.intro j2 (And.intro j3 j4)))
          have HMX := Lib.hid (show k + 1 ≤ maxLen ∧ (k + 1) * 8 ≤ 140737488355328 ∧ w.heap.size ≤ (w3.alloc (.cells #[.int .i64 n.num] 3)).heap.size from ⟨by unfold maxLen; omega, by omega, by have := hg3.size; have := hV.out.be.size; simp at *; omega⟩)
          have M3 := Lib.hid hm3
          have G3 := Lib.hid hg3
          clear hn hlx g1 g2 g3 g4 gb gc hr r0 r1 hk hnew HAS hhb hm3 hg3 hnb2 hmlt hn3 hkl j1 j2 j3 j4 AL2 hacc hu hnb
          go_wp2_with (at_builtin; refine wpList_append_any _ rfl _ _ 30 rfl w.heap.size 3 j0 (.int .i64 0) 1 8 Tryz.underlying30 HJ.out.1 HJ.out.2.1 HJ.out.2.2.1 HJ.out.2.2.2 rfl (by decide) (.slice ql k cl) k (intCells acc) rfl ROWA.out (some ⟨w3.heap.size, 0, none⟩) 1 1 [.int .i64 n.num] rfl rfl (fun _ => ⟨_, rfl, CellsIn.at HLC.out⟩) (by intro u hu; simp at hu; rw [hu]; rfl) HMX.out.1 HMX.out.2.1 HMX.out.2.2 ?_; intro p' cap' w8 hown hgrow hblk; have RN := Lib.hid hown; have GN := Lib.hid hgrow; clear hown hgrow hblk)
          go_roundw
          case rel =>
            refine ⟨j + 1, by omega, by go_num, D.put (kI n.num) (.agg []), ?_⟩
            rw [STEP.out]
            exact Lib.hid (hV.out.more BA.out G3.out M3.out ALH.out GN.out (by rw [← HKL.out]; exact RN.out))
          case measure => simp [intOf]; omega
        · have HV2 : Hid (VI w mb D (varsN (t.take (j + 1))) u3 (j + 1) ((wr.alloc (.cells #[.int .i64 n.kind, .string n.text, .int .i64 n.num, .int .i64 n.kids] 58)).alloc (.cells #[] 80))) := by
            have e : vstep (varsN (t.take j)) n = varsN (t.take j) := by
              unfold vstep
              rw [if_neg]
              rintro ⟨h1, h2⟩
              refine hp ⟨h1, ?_⟩
              cases h : hb with
              | false => rfl
              | true => exact absurd (HAS.1 h) h2
            rw [STEP.out, e]
            exact (hV.out.below BA.out).skip
          by_cases hk : n.kind = 31
          · obtain rfl : hb = true := by
              cases h : hb with
              | true => rfl
              | false => exact absurd ⟨hk, h⟩ hp
            have t1 : (n.kind == 31) = true := by simpa using hk
            clear hn hlx g1 g2 g3 g4 gb gc hr r0 r1 hk hp HAS hhb hV hu STEP BA
            go_wp2
            go_roundw
            case rel => exact ⟨j + 1, by omega, by go_num, D, HV2⟩
            case measure => simp [intOf]; omega
          · have t1 : (n.kind == 31) = false := by simpa using hk
            clear hn hlx g1 g2 g3 g4 gb gc hr r0 r1 hk hp HAS hhb hV hu STEP BA
            go_wp2
            go_roundw
            case rel => exact ⟨j + 1, by omega, by go_num, D, HV2⟩
            case measure => simp [intOf]; omega
      · obtain rfl : j = l := by omega
        have et : t.take j = t := List.take_of_length_le (by rw [← HL.out]; omega)
        rw [et] at hV
        have E : Hid (VaP t w (.returned u3) wr) := ⟨u3, rfl, by rw [HTY.out]; exact hV.out.row, hV.out.be⟩
        clear hV hlt et
        go_wp2
        go_ret
        exact E.out
end Go.Proofs.YtncifeeinogcnaaGreatDoor
