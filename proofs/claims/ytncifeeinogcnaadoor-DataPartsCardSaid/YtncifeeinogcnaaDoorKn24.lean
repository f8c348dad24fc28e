/- Texts of this seat, one behind the other: DaM. -/
import Derived.Test.YtncifeeinogcnaaDoorKn21
import Derived.Test.YtncifeeinogcnaaDoorKn15
import Derived.Test.YtncifeeinogcnaaDoorKn04
import Derived.Test.YtncifeeinogcnaaDoorKn16
import Derived.Test.YtncifeeinogcnaaDoorKn03
import Derived.Test.YtncifeeinogcnaaDoorKn23
import Derived.RegionTactic
import Derived.Maps.OwnSet
import Derived.WalkArith
import Derived.Maps.Views
import Derived.Maps.Ext
import Derived.LaidEqlPtr
import Derived.Deep.CutBlock
import Derived.WalkSmall
import Derived.Deep.DeepCutAuto
import Derived.Deep.RegionHeld3
import Derived.BigRegion
import Derived.Deep.RegionWith
import Derived.Lib.QuietBelow
import Derived.StillTailTactics
import Derived.Lib.Hide
import Derived.Outline
import Derived.LoopTactic
import Derived.Deep.QuietTactic
import Derived.BigQuiet
import Derived.Deep.LoopGhost
/- Parts. -/
set_option maxRecDepth 100000
namespace Go.Proofs.YtncifeeinogcnaaDoor
open Go.Shelf Go.RowKit Go.Lib Go.Sort Go.Maps Go.Proofs.TreeMath Go.Proofs.LexMath

/-- A type's tree. -/
def GT (t : T) : Prop := t.2.ok ∧ t.1.kids = t.2.cnt ∧ ∀ n ∈ flatT t, rightN n = true
/-- What a function of that type takes, and what it comes to. -/
inductive Pt : T → List T → T → Prop where
  | fin (t : T) : t.1.text ≠ sArrow → Pt t [] t
  | arr (n : Nd) (a b : T) (L : List T) (r : T) : n.text = sArrow → Pt b L r → Pt (n, .cons a.1 a.2 (.cons b.1 b.2 .nil)) (a :: L) r
theorem flatT_eq (t : T) : flatT t = t.1 :: t.2.flat := by simp [flatT, F.flat]
theorem type_tree {ns : List Nd} (h : tyB ns = true) : ∃ t, GT t ∧ flatT t = ns ∧ ns.length ≤ 4000 := by
  unfold tyB at h
  simp only [Bool.and_eq_true, decide_eq_true_eq] at h
  obtain ⟨f, h1, h2, h3⟩ := doc_of ns h.1.2
  cases f with
  | nil => simp [F.cnt] at h2
  | cons n k r =>
    cases r with
    | cons => simp [F.cnt] at h2
    | nil =>
      refine ⟨(n, k), ⟨h1.2.1, h1.1, fun m hm => ?_⟩, h3, h.1.1⟩
      have : m ∈ ns := by rw [← h3]; exact hm
      exact List.all_eq_true.1 h.2 m this
theorem arrow_kids {n : Nd} (h : rightN n = true) (ha : n.text = sArrow) : n.kids = 2 := by
  unfold rightN at h
  split at h
  · rw [ha] at h; simp [sArrow] at h
  · split at h
    · simp only [Bool.and_eq_true] at h
      unfold conB at h
      rw [if_pos ha] at h
      simpa using h.2
    · simp at h
/-- A function's type: its two kids. -/
theorem arrow_two {t : T} (h : GT t) (ha : t.1.text = sArrow) : ∃ a b : T, t = (t.1, .cons a.1 a.2 (.cons b.1 b.2 .nil)) ∧ GT a ∧ GT b ∧ flatT t = [t.1] ++ (flatT a ++ flatT b) ∧ endI (kk (flatT t)) 1 = ((1 + szT a : Nat) : Int) := by
  obtain ⟨n, k⟩ := t
  obtain ⟨h1, h2, h3⟩ := h
  simp only at h1 h2 ha
  have hk := arrow_kids (h3 n (by rw [flatT_eq]; exact List.mem_cons_self ..)) ha
  rw [hk] at h2
  cases k with
  | nil => simp [F.cnt] at h2
  | cons n1 k1 r1 =>
    cases r1 with
    | nil => simp [F.cnt] at h2
    | cons n2 k2 r2 =>
      cases r2 with
      | cons => simp [F.cnt] at h2; omega
      | nil =>
        have ef : flatT (n, F.cons n1 k1 (.cons n2 k2 .nil)) = [n] ++ (flatT (n1, k1) ++ flatT (n2, k2)) := by simp [flatT, F.flat]
        refine ⟨(n1, k1), (n2, k2), rfl, ⟨h1.2.1, h1.1, fun m hm => h3 m ?_⟩, ⟨h1.2.2.2.1, h1.2.2.1, fun m hm => h3 m ?_⟩, ef, ?_⟩
        · rw [ef]; simp [hm]
        · rw [ef]; simp [hm]
        · rw [show (1 : Int) = ((1 : Nat) : Int) from rfl, endI_nat, ef]
          have := fin_flat (.cons n1 k1 .nil) ⟨h1.1, h1.2.1, trivial⟩ [n] (flatT (n2, k2))
          have e2 : (F.cons n1 k1 .nil).flat = flatT (n1, k1) := rfl
          rw [e2] at this
          simp only [F.cnt, List.length_singleton] at this
          rw [this]
          simp [F.sz, szT]
theorem cut_mid {w : World} {b off n c : Nat} {pre mid post : List Nd} (h : NodesAt w (.slice (some ⟨b, off, none⟩) n c) (pre ++ (mid ++ post))) (hb : b < w.heap.size) (hc : CellsIn w b off (nodeCells (pre ++ (mid ++ post)))) (k' : Nat) (h1 : mid.length ≤ k') (h2 : k' ≤ c) : NodesAt w (.slice (some ⟨b, off + pre.length * 4, none⟩) mid.length k') mid := by
  obtain ⟨_, p, cap, e, _, hcm, _⟩ := h
  simp only [Value.slice.injEq] at e
  obtain ⟨_, _, rfl⟩ := e
  refine ⟨length_nodeCells mid, _, k', rfl, h1, by omega, fun _ => ⟨b, _, rfl, hb, fun j u hj => ?_⟩⟩
  have := hc (pre.length * 4 + j) u (by
    rw [nodeCells_append, List.getElem?_append_right (by rw [length_nodeCells]; omega), length_nodeCells, Nat.add_sub_cancel_left, nodeCells_append]
    rw [List.getElem?_append_left (List.getElem?_eq_some_iff.1 hj).1]
    exact hj)
  rw [← Nat.add_assoc] at this
  exact this
theorem infoSl : ∃ i, Tryd.prog.info? 36 = some i ∧ i.zero = some (.slice none 0 0) ∧ i.size = 1 ∧ i.bytes = 24 := info_of' (by kernel_rfl)
/-- What Parts answers. -/
def PaP (ns : List Nd) (w : World) (e : Ending) (w' : World) : Prop := ∃ v1 v2, e = .returned (.tuple #[v1, v2]) ∧ Below w.heap.size w w' ∧
  ((tyB ns = false ∧ v1 = .slice none 0 0 ∧ v2 = .slice none 0 0) ∨ (∃ t L r, GT t ∧ flatT t = ns ∧ Pt t L r ∧ ListsAt w' v1 (L.map flatT) ∧ NodesAt w' v2 (flatT r)))
theorem sl_mid (b off n c m : Nat) (hm : 1 ≤ m) (hmc : m ≤ c) (hc : 1 < c) (W : World) : (Instr.sliceAt 36 (.slice (some ⟨b, off, none⟩) n c) (some (.int .i64 1)) (some (.int .i64 m)) none).run Tryd.prog W = .ok (.slice (some ⟨b, off + 4, none⟩) (m - 1) (c - 1)) W := by
  have h1 : (1 : Int) ≤ (m : Int) := by omega
  have h2 : (m : Int) ≤ (c : Int) := by omega
  have h3 : c ≠ 1 := by omega
  simp [go_sem, h1, hmc, h3]
theorem sl_from (b off n c k : Nat) (hk : k ≤ n) (hnc : n ≤ c) (hc : c ≠ k) (W : World) : (Instr.sliceAt 36 (.slice (some ⟨b, off, none⟩) n c) (some (.int .i64 k)) none none).run Tryd.prog W = .ok (.slice (some ⟨b, off + k * 4, none⟩) (n - k) (c - k)) W := by
  have := slice_eq b off n c k hk hnc W
  rw [if_neg hc] at this
  exact this
/-- What lies apart from a row. -/
def Free (v r : Value) (W : World) : Prop := (v.ownBlock = none ∨ v.ownBlock ≠ r.ownBlock) ∧ ∀ g, v.ownBlock = some g → g < W.heap.size
theorem Free.next {v r r' : Value} {W W' : World} {S : Nat} (h : Free v r W) (hs : W.heap.size ≤ S) (hr : r'.ownBlock = r.ownBlock ∨ r'.ownBlock = some S) (hw : W.heap.size ≤ W'.heap.size) : Free v r' W' := by
  refine ⟨?_, fun g e => Nat.lt_of_lt_of_le (h.2 g e) hw⟩
  rcases hr with e | e
  · rw [e]; exact h.1
  · rw [e]
    cases hv : v.ownBlock with
    | none => exact .inl rfl
    | some g =>
      refine .inr fun e2 => ?_
      have := h.2 g hv
      simp only [Option.some.injEq] at e2
      omega
theorem cln_own (v : Value) (ns : List Nd) (w : World) (h : NodesAt w v ns) (hn : ns.length ≤ 1000000) : Calls Tryd.prog 31 #[v] w (NOwn w ns) := by
  rcases ns with _ | ⟨x, ns⟩
  · obtain ⟨_, p, c, rfl, _, _, hp⟩ := h
    have q22 : ∀ (w : World) (a : Option Addr) (n c n' c' : Nat), (binOp .eql 36 (.slice a n c) (.slice none n' c')).run Tryd.prog w = .ok (.bool a.isNone) w := fun w a n c n' c' => Lib.run_eql_slice_nil w _ _ a n c n' c' Tryd.underlying36
    rcases p with _ | a
    · go_enter Tryd.func31, Tryd.ntmps31
      go_wp2
      first | go_ret | skip
      exact ⟨_, rfl, World.ownsRow_nil _ _ _ _, Below.refl _ _⟩
    · go_enter Tryd.func31, Tryd.ntmps31
      go_wp2
      first | go_ret | skip
      exact ⟨_, rfl, World.ownsRow_made w #[] 0 (Nat.le_refl _) (Nat.zero_le _) rfl, (Below.refl _ _).alloc (Nat.le_refl _) _⟩
  · obtain ⟨b, off, c, rfl, _, _, hb, hc⟩ := nodes_slice h (by simp)
    obtain ⟨i0, hi, hz0, hz1, hz2⟩ := infoNode
    have := AnyE.slices_Clone cloneN i0 zeroNode 4 40 hi hz0 hz1 hz2 rfl (by decide) Tryd.sizeOf42 b off (x :: ns).length c (nodeCells (x :: ns)) w (length_nodeCells (x :: ns)) (by unfold maxLen; omega) (by omega) hc (nodeCells_one (x :: ns))
    refine this.mono ?_
    rintro e w' ⟨v', he, hown, _, hb⟩
    exact ⟨v', he, hown, hb⟩
def slen : Value → Nat
  | .slice _ n _ => n
  | _ => 0
/-- What the walk holds. -/
structure PS (w : World) (t0 : T) (b o m c : Nat) (q : Option Addr) (k cq : Nat) (cur : T) (dn : List T) (vs : List Value) (wr : World) : Prop where
  gt : GT cur
  sz : m = szT cur
  at0 : NodesAt wr (.slice (some ⟨b, o, none⟩) m c) (flatT cur)
  len : k = dn.length
  row : wr.ownsRow w.heap.size 36 1 (.slice q k cq) k vs
  vlen : vs.length = dn.length
  pts : ∀ i, i < dn.length → NodesAt wr (vs.getD i default) ((dn.map flatT).getD i []) ∧ Free (vs.getD i default) (.slice q k cq) wr
  be : Below w.heap.size w wr
  rel : ∀ L r, Pt cur L r → Pt t0 (dn ++ L) r
  few : dn.length + szT cur ≤ 4000
theorem PS.lists {w : World} {t0 : T} {b o m c : Nat} {q : Option Addr} {k cq : Nat} {cur : T} {dn : List T} {vs : List Value} {wr : World} (h : PS w t0 b o m c q k cq cur dn vs wr) : ListsAt wr (.slice q k cq) (dn.map flatT) := by
  refine ⟨vs, ?_, fun i hi => (h.pts i (by simpa using hi)).1⟩
  have := SliceAt.of_owns h.row
  rw [h.len] at this ⊢
  rw [List.length_map]
  exact this
set_option maxHeartbeats 2000000 in
theorem parts_yes (v : Value) (ns : List Nd) (t0 : T) (w : World) (h : NodesAt w v ns) (hG : GT t0) (hf : flatT t0 = ns) (hl : ns.length ≤ 4000) (hT : tyB ns = true) (hs : SmallN ns) : Calls Tryd.prog 15 #[v] w (PaP ns w) := by
  obtain ⟨i0, hi, hz0, hz1, hz2⟩ := infoSl
  have HI := Lib.hid (And.intro hi (And.intro hz0 (And.intro hz1 hz2)))
  clear hi hz0 hz1 hz2
  have CK := Lib.hid (check_any v ns w h (by omega) hs)
  unfold CkP at CK
  rw [if_pos hT] at CK
  have hpos : 0 < ns.length := by rw [← hf, flatT_length]; unfold szT; omega
  obtain ⟨b, o, c, rfl, hnc, hcm, hb, hcells⟩ := nodes_slice h hpos
  have E : Hid (∀ L r v1 v2 w', Pt t0 L r → ListsAt w' v1 (L.map flatT) → NodesAt w' v2 (flatT r) → Below w.heap.size w w' → PaP ns w (.returned (.tuple #[v1, v2])) w') := Lib.hid fun L r v1 v2 w' h1 h2 h3 h4 => ⟨v1, v2, rfl, h4, .inr ⟨t0, L, r, hG, hf, h1, h2, h3⟩⟩
  obtain ⟨m, hm⟩ : ∃ m, m = ns.length := ⟨_, rfl⟩
  have S0 : Hid (∀ w1, Below w.heap.size w w1 → PS w t0 b o m c none 0 0 t0 [] [] w1) := Lib.hid fun w1 hb1 => ⟨hG, by rw [hm, ← hf, flatT_length], by rw [hf, hm]; exact h.below hb1, rfl, World.ownsRow_nil _ _ _ _, rfl, fun i hi => absurd hi (Nat.not_lt_zero _), hb1, fun L r h => h, by rw [List.length_nil, ← flatT_length, hf]; omega⟩
  rw [← hm] at CK ⊢
  generalize PaP ns w = Z at E ⊢
  have BW := Lib.hid hb
  clear h hG hf hl hT hs hpos hnc hcm hb hcells hm
  go_enter Tryd.func15, Tryd.ntmps15
  go_wp2_with fail
  refine CK.out.mono ?_
  rintro e w1 ⟨rfl, b1⟩
  have S1 := Lib.hid (S0.out w1 b1)
  clear b1 CK S0
  go_wp2
  go_loopw [0, 4] (fun s0 s4 wr => ∃ (o m c : Nat) (q : Option Addr) (k cq : Nat) (cur : T) (dn : List T) (vs : List Value), s0 = .slice (some ⟨b, o, none⟩) m c ∧ s4 = .slice q k cq ∧ Hid (PS w t0 b o m c q k cq cur dn vs wr)) (fun s0 _ _ => slen s0)
  case atStart => exact ⟨o, m, c, none, 0, 0, t0, [], [], rfl, rfl, S1⟩
  case round =>
    obtain ⟨wo, hwo⟩ : ∃ wo : World, wo = wr := ⟨_, rfl⟩
    subst hwo
    obtain ⟨o, m, c, q, k, cq, cur, dn, vs, rfl, rfl, hS⟩ := hrel
    clear S1
    have hp : 0 < (flatT cur).length := by rw [flatT_length]; unfold szT; omega
    have hml : m = (flatT cur).length := by rw [flatT_length]; exact hS.out.sz
    obtain ⟨b2, o2, c2, e', hnc, hcm, hb, hc⟩ := nodes_slice hS.out.at0 hp
    simp only [Value.slice.injEq, Option.some.injEq, Addr.mk.injEq, and_true] at e'
    obtain ⟨⟨rfl, rfl⟩, -, rfl⟩ := e'
    have x1 := (hc.node 0 hp).2.1
    have eg : (flatT cur).getD 0 default = cur.1 := by rw [flatT_eq]; rfl
    rw [eg, Nat.zero_mul, Nat.add_zero] at x1
    rw [← hml] at hnc
    have hm0 : 0 < m := by rw [hml]; exact hp
    have k0 : ((0 : Int) < (m : Int)) := by omega
    have HNC := Lib.hid hnc
    have HM6 : Hid (m ≤ 4000) := Lib.hid (by have := hS.out.few; have := hS.out.sz; omega)
    by_cases ha : cur.1.text = sArrow
    · obtain ⟨ta, tb, et, ga, gb, ef, ee⟩ := arrow_two hS.out.gt ha
      rw [ha] at x1
      unfold sArrow at x1
      obtain ⟨E1, hE1⟩ : ∃ E1, E1 = 1 + szT ta := ⟨_, rfl⟩
      rw [← hE1] at ee
      have hza : 1 ≤ szT ta := by unfold szT; omega
      have hzb : 1 ≤ szT tb := by unfold szT; omega
      have hmz : m = E1 + szT tb := by rw [hml, ef, List.length_append, List.length_append, List.length_singleton, flatT_length, flatT_length, hE1]; omega
      have EN := Lib.hid (fun W (hW : Below wo.heap.size wo W) => end_any (.slice (some ⟨b, o, none⟩) m c) (flatT cur) 1 W (hS.out.at0.below hW) (by rw [← hml]; have := HM6.out; omega))
      rw [ee] at EN
      have A1 : NodesAt wo (.slice (some ⟨b, o + 4, none⟩) (E1 - 1) (c - 1)) (flatT ta) := by
        have h0 := hS.out.at0
        rw [ef] at h0
        have := cut_mid (pre := [cur.1]) (mid := flatT ta) (post := flatT tb) h0 hb (by rw [← ef]; exact hc) (c - 1) (by rw [flatT_length]; omega) (by omega)
        rw [flatT_length, show szT ta = E1 - 1 by omega] at this
        exact this
      have A2 : NodesAt wo (.slice (some ⟨b, o + E1 * 4, none⟩) (m - E1) (c - E1)) (flatT tb) := by
        have h0 := hS.out.at0
        have ef2 : flatT cur = ([cur.1] ++ flatT ta) ++ (flatT tb ++ []) := by rw [ef, List.append_nil, List.append_assoc]
        rw [ef2] at h0
        have := cut_mid (pre := [cur.1] ++ flatT ta) (mid := flatT tb) (post := []) h0 hb (by rw [← ef2]; exact hc) (c - E1) (by rw [flatT_length]; omega) (by omega)
        rw [List.length_append, List.length_singleton, flatT_length, flatT_length, ← hE1, show szT tb = m - E1 by omega] at this
        exact this
      have CL := Lib.hid (cln_own _ _ wo A1 (by rw [flatT_length]; have := HM6.out; omega))
      have SM := sl_mid b o m c E1 (by omega) (by omega) (by omega)
      have SF := sl_from b o m c E1 (by omega) hnc (by omega)
      have A2H := Lib.hid A2
      have HE1 := Lib.hid hE1
      have HMZ := Lib.hid hmz
      have GA := Lib.hid ga
      have GB := Lib.hid gb
      have ET := Lib.hid et
      have HA := Lib.hid ha
      have HK : Hid (k + 1 ≤ maxLen ∧ (k + 1) * 24 ≤ 140737488355328) := Lib.hid (by have := hS.out.few; have := hS.out.len; constructor; unfold maxLen; omega; omega)
      clear hp hml hc eg hnc hcm hb ee ef et ga gb A1 A2 hE1 hza hzb hmz ha
      go_wp2_with fail
      refine (EN.out _ (Below.refl _ _)).mono ?_
      rintro e w2 ⟨rfl, rfl⟩
      go_wp2_with fail
      refine CL.out.mono ?_
      rintro e w3 ⟨v1, rfl, rw1, b3⟩
      have n1 : NodesAt w3 v1 (flatT ta) := SliceAt.of_owns rw1
      obtain ⟨aq, ac, rfl⟩ := nodes_form' n1
      obtain ⟨am, ham⟩ : ∃ am, am = (flatT ta).length := ⟨_, rfl⟩
      rw [← ham] at n1 rw1 ⊢
      have OW := Lib.hid (fun g hg => World.ownsRow.there (g := g) rw1 hg)
      have B3 := Lib.hid b3
      have N1 := Lib.hid n1
      have BK := Lib.hid (box_keep (W := w3) (.cells #[.slice aq am ac] 36))
      have R1 : Hid ((w3.alloc (.cells #[.slice aq am ac] 36)).ownsRow w.heap.size 36 1 (.slice q k cq) k vs) := Lib.hid (World.ownsRow.keep hS.out.row fun g hg => ((b3.trans (BK.out.mono b3.size)).block g (World.ownsRow.there hS.out.row hg).2))
      have LC := Lib.hid (CellsIn.at (lit_at w3 #[.slice aq am ac] 36))
      have HB : Hid (w.heap.size ≤ (w3.alloc (.cells #[.slice aq am ac] 36)).heap.size) := Lib.hid (Nat.le_trans hS.out.be.size (Nat.le_trans b3.size BK.out.size))
      clear b3 n1 EN CL ham rw1
      go_wp2_with ((at_builtin; refine wpList_append_any _ rfl _ _ 31 rfl w.heap.size 36 i0 (.slice none 0 0) 1 24 Tryd.underlying31 HI.out.1 HI.out.2.1 HI.out.2.2.1 HI.out.2.2.2 rfl (by decide) (.slice q k cq) k vs rfl R1.out (some ⟨w3.heap.size, 0, none⟩) 1 1 [.slice aq am ac] rfl rfl (fun _ => ⟨_, rfl, LC.out⟩) (by intro u hu; simp at hu; subst hu; rfl) HK.out.1 HK.out.2 HB.out ?_; intro p' cap' w5 hown hgrow hblk; have RN := Lib.hid hown; have GN := Lib.hid hgrow; have HBK := Lib.hid hblk; clear hown hgrow hblk))
      go_roundw
      case rel =>
        refine ⟨o + E1 * 4, m - E1, c - E1, p', k + 1, cap', tb, dn ++ [ta], vs ++ [.slice aq am ac], rfl, rfl, Lib.hid ?_⟩
        have hbe : Below w.heap.size w w5 := ((hS.out.be.trans (B3.out.mono hS.out.be.size)).trans (BK.out.mono (Nat.le_trans hS.out.be.size B3.out.size))).grown GN.out HB.out fun g e => (World.ownsRow.there hS.out.row e).1
        have hws : wo.heap.size ≤ (w3.alloc (.cells #[.slice aq am ac] 36)).heap.size := Nat.le_trans B3.out.size BK.out.size
        have step : ∀ v L, NodesAt wo v L → Free v (.slice q k cq) wo → NodesAt w5 v L ∧ Free v (.slice p' (k + 1) cap') w5 := fun v L h1 h2 => ⟨SliceAt.grown ((h1.below B3.out).below BK.out) GN.out h2.1, h2.next hws HBK.out (Nat.le_trans hws GN.out.size)⟩
        refine ⟨GB.out, by have := HMZ.out; omega, (step _ _ A2H.out ⟨.inr fun e => ?_, fun g e => ?_⟩).1, by rw [List.length_append, List.length_singleton, hS.out.len], RN.out, by rw [List.length_append, List.length_append, List.length_singleton, List.length_singleton, hS.out.vlen], fun i hi => ?_, hbe, fun L r h => ?_, ?_⟩
        · have h9 : w.heap.size ≤ b := (World.ownsRow.there hS.out.row e.symm).1
          have := BW.out
          omega
        · simp [Value.ownBlock] at e
          have := BW.out
          have := hS.out.be.size
          omega
        · rw [List.length_append, List.length_singleton] at hi
          rw [List.map_append]
          by_cases hlt : i < dn.length
          · rw [List.getD_eq_getElem?_getD, List.getElem?_append_left (by rw [hS.out.vlen]; exact hlt), List.getD_eq_getElem?_getD, List.getElem?_append_left (by rw [List.length_map]; exact hlt), ← List.getD_eq_getElem?_getD, ← List.getD_eq_getElem?_getD]
            exact step _ _ (hS.out.pts i hlt).1 (hS.out.pts i hlt).2
          · obtain rfl : i = dn.length := by omega
            rw [List.getD_eq_getElem?_getD, List.getElem?_append_right (by rw [hS.out.vlen]; exact Nat.le_refl _), List.getD_eq_getElem?_getD, List.getElem?_append_right (by rw [List.length_map]; exact Nat.le_refl _), hS.out.vlen, List.length_map, Nat.sub_self]
            have f1 : Free (.slice aq am ac) (.slice q k cq) w3 := ⟨by
              cases hq : (Value.slice aq am ac).ownBlock with
              | none => exact .inl rfl
              | some g =>
                refine .inr fun e => ?_
                have h1 := (OW.out g hq).1
                have h2 := (World.ownsRow.there hS.out.row e.symm).2
                omega, fun g e => (OW.out g e).2⟩
            exact ⟨SliceAt.grown (N1.out.below BK.out) GN.out f1.1, f1.next BK.out.size HBK.out (Nat.le_trans BK.out.size GN.out.size)⟩
        · rw [List.append_assoc]
          refine hS.out.rel _ _ ?_
          rw [ET.out]
          exact .arr _ _ _ _ _ HA.out h
        · rw [List.length_append, List.length_singleton]
          have h1 := hS.out.few
          have h2 := hS.out.sz
          have h3 := HMZ.out
          have h4 := HE1.out
          omega
      case measure =>
        have := HMZ.out
        have := HE1.out
        simp [slen]
        omega
    · have n1 := str_ne ha
      have n2 := str_ne' ha
      unfold sArrow at n1 n2
      have e3 : (⟨#[45, 62]⟩ : ByteArray).toList = [45, 62] := by simp [ByteArray.toList_eq]
      rw [e3] at n1 n2
      clear e3
      have CL := Lib.hid (cln_any _ _ wo hS.out.at0 (by rw [← hml]; have := HM6.out; omega))
      have HA := Lib.hid ha
      clear hp hml hc eg hnc hcm hb ha
      go_wp2_with fail
      refine CL.out.mono ?_
      rintro e w3 ⟨v2, rfl, n3, b3⟩
      have F := Lib.hid (E.out dn cur (.slice q k cq) v2 w3 (by have := hS.out.rel [] cur (.fin _ HA.out); rwa [List.append_nil] at this) (hS.out.lists.below b3) n3 (hS.out.be.trans (b3.mono hS.out.be.size)))
      clear n3 b3 CL E
      go_wp2
      first | go_ret2 | skip
      exact F.out
theorem parts_no (v : Value) (ns : List Nd) (w : World) (h : NodesAt w v ns) (hl : ns.length ≤ 1000000) (hT : tyB ns = false) (hs : SmallN ns) : Calls Tryd.prog 15 #[v] w (PaP ns w) := by
  have CK := Lib.hid (check_any v ns w h (by omega) hs)
  unfold CkP at CK
  rw [if_neg (by rw [hT]; decide)] at CK
  obtain ⟨q, c, rfl⟩ := nodes_form' h
  have E : Hid (∀ w', Below w.heap.size w w' → PaP ns w (.returned (.tuple #[.slice none 0 0, .slice none 0 0])) w') := Lib.hid fun w' b => ⟨_, _, rfl, b, .inl ⟨hT, rfl, rfl⟩⟩
  generalize PaP ns w = Z at E ⊢
  clear h hl hT hs
  go_enter Tryd.func15, Tryd.ntmps15
  go_wp2_with fail
  refine CK.out.mono ?_
  rintro e w1 ⟨rfl, b1⟩
  have F := Lib.hid (E.out w1 b1)
  clear b1 CK E
  go_wp2
  first | go_ret2 | skip
  exact F.out
theorem parts_any (v : Value) (ns : List Nd) (w : World) (h : NodesAt w v ns) (hl : ns.length ≤ 1000000) (hs : SmallN ns) : Calls Tryd.prog 15 #[v] w (PaP ns w) := by
  cases hT : tyB ns with
  | false => exact parts_no v ns w h hl hT hs
  | true =>
    obtain ⟨t, hg, hf, hl4⟩ := type_tree hT
    exact parts_yes v ns t w h hg hf hl4 hT hs
end Go.Proofs.YtncifeeinogcnaaDoor
