/- Texts of this seat, one behind the other: ApE, ApF. -/
import Derived.Test.YtncifeeinogcnaaGreatDoorKn22
import Derived.Test.YtncifeeinogcnaaGreatDoorKn23
/- The contract of Apply. -/
set_option maxRecDepth 100000
namespace Go.Proofs.YtncifeeinogcnaaGreatDoor
open Go.RowKit Go.Shelf Go.Lib Go.Maps Go.Proofs.TreeMath
attribute [local go_sem] Oper.semAt_some

theorem zero22 (w : World) : (zeroValue 22).run Tryz.prog w = .ok (.slice none 0 0) w := by kernel_rfl
theorem NR.many {w : World} {acc ts : List Nd} {lv nv : Value} {wr w1 w2 : World} (h : NR w acc lv wr) (b1 : Below wr.heap.size wr w1) (g : w1.grownBy w2 lv.ownBlock) (hn : w2.ownsRow w.heap.size 58 4 nv (acc.length + ts.length) (nodeCells acc ++ nodeCells ts)) : NR w (acc ++ ts) nv w2 := by
  refine ⟨?_, (h.be.trans (b1.mono h.be.size)).grown g (Nat.le_trans h.be.size b1.size) fun k e => (World.ownsRow.there h.row e).1⟩
  rw [List.length_append, show nodeCells (acc ++ ts) = nodeCells acc ++ nodeCells ts by simp [nodeCells]]
  exact hn
theorem wpListIn_append_any {F : Fence} {nF : Nat} {P : Program} (w : World) {ops : Array Oper} {rest : List Oper} {o : Oper} {a : Act} {Q : Exit → Act → World → Prop} (hgd : o.guard = none) (s x : Operand) (t : TypeId)
    (ho : o.op = .call { callee := .builtin .append, args := #[s, x], argTypes := #[t, t] })
    (base : Nat) (e : TypeId) (i : TypeInfo) (z : Value) (size bytes : Nat) (ht : P.underlying t = some (.slice e)) (hi : P.info? e = some i) (hz : i.zero = some z)
    (hsize : i.size = size) (hby : i.bytes = bytes) (hzs : z.cells.size = size) (hsz : 0 < size)
    (v : Value) (n : Nat) (xs : List Value) (hs : a.eval s = v) (hown : w.ownsRow base e size v n xs)
    (q : Option Addr) (m c : Nat) (news : List Value) (hx : a.eval x = .slice q m c) (hl : news.length = m * size) (hq : m ≠ 0 → ∃ ad, q = some ad ∧ ∀ j u, news[j]? = some u → w.cell? (ad.add j) = some u) (h1 : ∀ u ∈ news, u.oneCell' = true)
    (h63 : n + m ≤ maxLen) (hbytes : (n + m) * bytes ≤ 140737488355328) (hbase : base ≤ w.heap.size)
    (h : ∀ p' cap' w', w'.ownsRow base e size (.slice p' (n + m) cap') (n + m) (xs ++ news) → w.grownBy w' v.ownBlock → wpListIn F nF P ops Q rest (a.put o.dst (.slice p' (n + m) cap')) w') : wpListIn F nF P ops Q (o :: rest) a w := by
  obtain ⟨v', w', hr, h2, h3, h4, h5⟩ := run_append_any (P := P) w base t o.type e i z size bytes ht hi hz hsize hby hzs hsz v n xs hown q m c news hl hq h1 h63 hbytes hbase
  obtain ⟨p', cap', rfl⟩ : ∃ p' cap', v' = .slice p' (n + m) cap' := by
    rcases h2.2 with ⟨rfl, e⟩ | ⟨g, cap, cur, rfl, _⟩
    · exact ⟨none, 0, by rw [e]⟩
    · exact ⟨_, _, rfl⟩
  refine wpListIn_plain hgd fun K hK => ?_
  unfold Oper.wpIn
  refine ⟨?_, ?_⟩
  · simp [Oper.about, ho, resolve, Target.leads, Sem.run_pure]
  · rw [Oper.semAt_plain F _ _ (by rw [ho]; intro c hc'; cases hc')]
    simp [execOp, ho, resolve, invoke, builtin, hs, hx, hr, Result.andThen]
    exact hK _ _ (h p' cap' w' h2 h3)
theorem own_block {B Bx : Nat} {X Y : World} {row : Option Nat} {cs : Array Value} {t : TypeId} (h : X.heap[Bx]? = some (.cells cs t (0, 0))) (hg : X.grownBy Y row) (hr : ∀ r, row = some r → B ≤ r ∧ ∃ o : Obj, X.heap[r]? = some o ∧ o.isCells = false) : Y.heap[Bx]? = some (.cells cs t (0, 0)) :=
  (hg.block Bx (Array.getElem?_eq_some_iff.1 h).1 fun e => by
    obtain ⟨_, o, ho, hc⟩ := hr Bx e.symm
    rw [h] at ho; cases ho; cases hc).trans h
set_option maxHeartbeats 4000000 in
theorem apply_in (n : Nat) (hn : 3 ≤ n) (q : Option Addr) (cap : Nat) (xs : List BE) (q2 : Option Addr) (c2 : Nat) (t : List Nd) (g : Int → Option (List Nd)) (w : World) (hns : NodesAt w (.slice q2 t.length c2) t) (hl : t.length ≤ 1000000) (hnum : ∀ n ∈ t, -9223372036854775808 ≤ n.num ∧ n.num ≤ 9223372036854775807) (hreach : xs.length ≤ 100000000)
    (hI : 0 < xs.length → ∃ b off, q = some ⟨b, off, none⟩ ∧ b < w.heap.size ∧ ∀ j, j < xs.length → w.cell? ⟨b, off + j * 2, none⟩ = some (.int .i64 (xs.getD j default).1.1) ∧ w.cell? ⟨b, off + j * 2 + 1, none⟩ = some (xs.getD j default).1.2)
    (HG : ∀ v, (g v = none ∧ ∀ j, j < xs.length → (xs.getD j default).1.1 ≠ v) ∨ ∃ j ts, j < xs.length ∧ (xs.getD j default).1.1 = v ∧ (∀ i, i < j → (xs.getD i default).1.1 ≠ v) ∧ g v = some ts ∧ NodesAt w (xs.getD j default).1.2 ts ∧ ts.length ≤ 4000) :
    CallsIn Fence.wide n Tryz.prog 23 #[.slice q xs.length cap, .slice q2 t.length c2] w fun e w' => ∃ lv, e = .returned lv ∧ w'.ownsRow w.heap.size 58 4 lv (apN g t).length (nodeCells (apN g t)) ∧ Below w.heap.size w w' := by
  have NS := Lib.hid (fun W (b : Below w.heap.size w W) => hns.below b)
  have HGH := Lib.hid HG
  have HNUM := Lib.hid hnum
  obtain ⟨tl, hlen⟩ : ∃ tl, tl = t.length := ⟨_, rfl⟩
  have HL := Lib.hid hlen
  rw [← hlen] at NS hl ⊢
  clear hns hlen HG hnum
  have h1 : 1 ≤ n := by omega
  have hmm := @run_makeMap Tryz.prog
  have hf45 : Fence.wide.fn 59 := trivial
  refine callsIn_of_wp_marks Tryz.func23 rfl trivial ?_ rfl
  simp only [Tryz.ntmps23, List.size_toArray, List.length_cons, List.length_nil, Nat.reduceAdd, Nat.reduceSub, Array.replicate_succ, Array.replicate_zero, List.push_toArray, List.append_toArray, List.nil_append, List.cons_append]
  gi_wp2_with (gi_at_call 59; refine (backward_in Fence.wide (n - 1) trivial rfl _ _ _ _).mono ?_; rintro e w' ⟨rfl, rfl⟩)
  have hm0 := World.ownsMap_made w Tryz.prog 2 SE
  have hsz : (((w.alloc (.map #[] 0)).alloc (.cells #[.map (some w.heap.size)] 97)).alloc (.cells #[.slice q xs.length cap] 35)).heap.size = w.heap.size + 3 := by simp
  have bM : Boxed (((w.alloc (.map #[] 0)).alloc (.cells #[.map (some w.heap.size)] 97)).alloc (.cells #[.slice q xs.length cap] 35)) (w.heap.size + 1) 97 (.map (some w.heap.size)) := by
    have := Boxed.new (w.alloc (.map #[] 0)) 97 (.map (some w.heap.size))
    rw [show (w.alloc (.map #[] 0)).heap.size = w.heap.size + 1 by simp] at this
    exact this.alloc _
  have bN : Boxed (((w.alloc (.map #[] 0)).alloc (.cells #[.map (some w.heap.size)] 97)).alloc (.cells #[.slice q xs.length cap] 35)) (w.heap.size + 1 + 1) 35 (.slice q xs.length cap) := by
    have := Boxed.new ((w.alloc (.map #[] 0)).alloc (.cells #[.map (some w.heap.size)] 97)) 35 (.slice q xs.length cap)
    rw [show ((w.alloc (.map #[] 0)).alloc (.cells #[.map (some w.heap.size)] 97)).heap.size = w.heap.size + 1 + 1 by simp] at this
    exact this
  have hB0 : Below w.heap.size w (((w.alloc (.map #[] 0)).alloc (.cells #[.map (some w.heap.size)] 97)).alloc (.cells #[.slice q xs.length cap] 35)) := (((Below.refl _ w).alloc (Nat.le_refl _) _).alloc (by simp) _).alloc (by simp; omega) _
  have hm3 := (hm0.alloc (.cells #[.map (some w.heap.size)] 97)).alloc (.cells #[.slice q xs.length cap] 35)
  obtain ⟨W0, hW0⟩ : ∃ W0, ((w.alloc (.map #[] 0)).alloc (.cells #[.map (some w.heap.size)] 97)).alloc (.cells #[.slice q xs.length cap] 35) = W0 := ⟨_, rfl⟩
  rw [hW0] at hsz bM bN hB0 hm3 ⊢
  clear hW0 hm0
  refine wpIn_rangeFunc_ownH rfl h1 (gf := 99) (lb := #[.pointer (some ⟨w.heap.size + 1 + 1, 0, none⟩)]) rfl trivial (enters_of Tryz.func99 (by kernel_rfl) rfl)
    (backward_stops Fence.wide (n - 1) trivial rfl (by omega) (w.heap.size + 1 + 1) w.heap.size (w.heap.size + 3) q cap xs hreach W0 ⟨by omega, by omega⟩ (by omega) bN.cell (fun h0 => by
      obtain ⟨b, off, e, hb, hc⟩ := hI h0
      exact ⟨b, off, e, ⟨by omega, by omega⟩, fun j hj => ⟨(hB0.cell (p := ⟨b, off + j * 2, none⟩) hb).trans (hc j hj).1, (hB0.cell (p := ⟨b, off + j * 2 + 1, none⟩) hb).trans (hc j hj).2⟩⟩)) (fun h k => h.trans k) (fun W l o o' hl hk hc _ => by
        have g := grownBy_putObj' W l o'
        exact ⟨g.os, g.tape, g.output, g.size, fun k hk2 _ => g.block k (by have := (Array.getElem?_eq_some_iff.1 hk).1; omega) (fun e => by cases e; omega)⟩) (Below.refl _ _) (fun _ => rfl)
    (fun pre W => (Boxed W (w.heap.size + 1) 97 (.map (some w.heap.size)) ∧ W.ownsMap Tryz.prog 2 SE w.heap.size pre.length (mpD pre)) ∧ (Below w.heap.size w W ∧ w.heap.size + 3 ≤ W.heap.size))
    (fun _ _ _ => False)
    (OwnFrom.and (OwnFrom.and (Own.from (boxed_own _ _ _) _) (fun s A B row hs hg hr => hs.kept hg (fun e => by have := (hr _ e.symm).1; omega))) (OwnFrom.and (ownFrom_below (Nat.le_refl _) (by omega)) (fun s A B row hs hg hr => Nat.le_trans hs hg.size)))
    (fun _ _ _ _ _ hs _ _ => hs)
    ⟨⟨bM, hm3⟩, hB0, by omega⟩
    (fun x a' W => ∃ Bx, w.heap.size + 1 < Bx ∧ W.heap[Bx]? = some (.cells #[.int .i64 x.2.1.1, x.2.1.2] 40 (0, 0)) ∧ a' = { tmps := #[.slice q xs.length cap, .slice q2 tl c2, undef, undef, .slice none 0 0, .pointer (some ⟨w.heap.size + 1, 0, none⟩), undef, .pointer (some ⟨Bx, 0, none⟩), undef, undef, undef, undef, undef, .map (some w.heap.size), .slice q xs.length cap, .func (.func 99) #[] #[.pointer (some ⟨w.heap.size + 1 + 1, 0, none⟩)], .int .i64 (x.1 : Nat), BE.val x.2, undef, undef, undef, undef, undef, undef, undef, undef, undef, undef, undef, undef, undef, undef, undef, undef, undef, undef, undef, undef, undef, undef, undef, undef, undef, undef, undef, undef, undef, undef, undef, undef, undef], defers := [] })
    (fun x a' _ X Y row hs hg hr => by obtain ⟨Bx, h1, h2, h3⟩ := hs; exact ⟨Bx, h1, own_block h2 hg hr, h3⟩)
    ?assign ?body ?done ?stop
  case assign =>
    rintro l pre x W K ⟨⟨bS1, bM1⟩, hB1, hZ1⟩ hK
    obtain ⟨i, ⟨⟨v, sv⟩, hw, q2, n2, c2, e, ha⟩⟩ := x
    simp only at e
    subst e
    unfold BE.val at hK ⊢
    simp only at hK ⊢
    gi_wp2
    exact hK _ _ ((KeepsOthers.alloc _ _).from _) (Frm.of_below ((Below.refl _ W).alloc hZ1 _)) ⟨⟨bS1.alloc _, bM1.alloc _⟩, hB1.alloc hB1.size _, by simp; omega⟩ ⟨W.heap.size, by omega, alloc_top W _, rfl⟩
  case body =>
    rintro l pre x a' W hl ⟨r, hr⟩ ⟨⟨bS1, bM1⟩, hB1, hZ1⟩ ⟨Bx, hBx, bX, rfl⟩ hlt
    obtain ⟨i, ⟨⟨v, sv⟩, hw, q2, n2, c2, e, ha⟩⟩ := x
    simp only at e
    subst e
    simp only at bX
    have cB := bS1.cell
    have x0 := cell_of_heap bX 0
    have x1 := cell_of_heap bX 1
    simp only [List.getElem?_toArray, List.getElem?_cons_zero, List.getElem?_cons_succ] at x0 x1
    have hw' : -9223372036854775808 ≤ v ∧ v ≤ 9223372036854775807 := by simp [Lit.wf, IntKind.min, IntKind.max, IntKind.signed, IntKind.bits] at hw; omega
    gi_wp2_with (gi_at_mapUpdate; refine wpListIn_mapUpdate_own _ rfl _ _ _ 97 rfl 2 22 law2 Tryz.underlying97 _ w.heap.size pre.length _ rfl bM1 (by unfold maxLen; omega) _ _ _ rfl rfl (key2 v hw'.1 hw'.2) _ [] (SE_of ha) ?_; intro w1 hown1 hgrow1)
    obtain ⟨es, ck, hh, _⟩ := bM1
    exact ⟨KeepsFrom.of_grownBy hgrow1 (fun j e => by cases e; omega), ⟨hgrow1.os, hgrow1.tape, hgrow1.output, hgrow1.size, fun k hk hd => hgrow1.block k (by omega) (fun e => hd (by cases e; rfl))⟩,
      ⟨bS1.kept hgrow1 (fun e => by simp at e), by rw [mpD_snoc, List.length_append]; exact hown1⟩, hB1.grown hgrow1 hB1.size (fun k e => by cases e; exact Nat.le_refl _), Nat.le_trans hZ1 hgrow1.size⟩
  case done =>
    rintro D ys W hD rfl ⟨⟨bS1, bM1⟩, hB1, hZ1⟩ hK
    have hDl : D < W.heap.size := (Array.getElem?_eq_some_iff.1 hK).1
    have cS := bS1.cell
    have AT := Lib.hid (fun v => mpD_at xs v (SEd (.slice none 0 0)) xs.length (Nat.le_refl _))
    have HK := Lib.hid hK
    have BS := Lib.hid bS1
    have BM := Lib.hid bM1
    have HB1 := Lib.hid hB1
    have C0 : Hid (NR W [] (.slice none 0 0) W) := Lib.hid ⟨World.ownsRow_nil _ _ _ _, Below.refl _ _⟩
    clear bM bN hm3 hmm hf45 hK bM1 bS1 hI
    gi_wp2
    gi_loopw [8, 25] (fun lv i wr => ∃ j : Nat, j ≤ tl ∧ i = .int .i64 j ∧ Hid (NR W (apN g (t.take j)) lv wr) ∧ Hid ((apN g (t.take j)).length ≤ 4000 * j)) (fun _ i _ => tl - (match i with | .int _ a => a.toNat | _ => 0))
    case atStart => exact ⟨0, Nat.zero_le _, rfl, C0, Lib.hid (by simp [apN])⟩
    case round =>
      obtain ⟨j, hj, rfl, hV, hA⟩ := hrel
      clear C0
      by_cases hlt : j < tl
      · have n0 := NS.out wr (HB1.out.trans (hV.out.be.mono HB1.out.size))
        obtain ⟨g1, q', c', e', g2, g3, g4⟩ := n0
        obtain ⟨b, o, rfl, gb, gc⟩ := g4 (by rw [← HL.out]; omega)
        simp only [Value.slice.injEq] at e'
        obtain ⟨rfl, hlx, rfl⟩ := e'
        obtain ⟨n, hn⟩ : ∃ n, n = t.getD j default := ⟨_, rfl⟩
        obtain ⟨a0, a1, a2, a3⟩ := CellsIn.node gc j (by rw [← HL.out]; exact hlt)
        rw [← hn] at a0 a1 a2 a3
        have hnr := HNUM.out n (by
          rw [hn, List.getD_eq_getElem?_getD, List.getElem?_eq_getElem (by rw [← HL.out]; exact hlt)]
          exact List.getElem_mem _)
        have STEP := Lib.hid (apN_take g t j (by rw [← HL.out]; exact hlt))
        rw [← hn] at STEP
        have bxl : w.heap.size + 1 < W.heap.size := by omega
        have cS1 := ((hV.out.be.block (w.heap.size + 1) bxl)).trans BS.out
        have cS2 := cell_of_heap cS1 0
        simp only [List.getElem?_toArray, List.getElem?_cons_zero] at cS2
        have ba : Below wr.heap.size wr (wr.alloc (.cells #[.int .i64 n.kind, .string n.text, .int .i64 n.num, .int .i64 n.kids] 58)) := (Below.refl _ _).alloc (Nat.le_refl _) _
        have cS3 := (ba.cell (p := ⟨w.heap.size + 1, 0, none⟩) (Nat.lt_of_lt_of_le bxl hV.out.be.size)).trans cS2
        have mw : wr.ownsMap Tryz.prog 2 SE w.heap.size (bwd xs xs.length).length (mpD (bwd xs xs.length)) := by
          obtain ⟨es', cl, hb, r⟩ := BM.out
          exact ⟨es', cl, (hV.out.be.block w.heap.size (by omega)).trans hb, r⟩
        obtain ⟨u, ps, hlk, hu⟩ := (mw.alloc (.cells #[.int .i64 n.kind, .string n.text, .int .i64 n.num, .int .i64 n.kids] 58)).look_ok law2 Tryz.underlying97 (zero22 _) (zd := SEd (.slice none 0 0)) (zp := []) rfl (key2 n.num hnr.1 hnr.2)
        obtain ⟨acc, hacc⟩ : ∃ acc, acc = apN g (t.take j) := ⟨_, rfl⟩
        rw [← hacc] at hV hA STEP
        obtain ⟨ql, cl, hql⟩ := row_form hV.out.row
        obtain ⟨k, hkl⟩ : ∃ k, k = acc.length := ⟨_, rfl⟩
        rw [← hkl] at hql
        subst hql
        have HKL := Lib.hid hkl
        have hkj : k ≤ 4000 * j := by rw [hkl]; exact hA.out
        have HN := Lib.hid hn
        obtain ⟨j0, j1, j2, j3, j4⟩ := info44
        have HJ := Lib.hid (And.intro j1 (And.intro j2 (And.intro j3 j4)))
        have HWL := Lib.hid (hV.out.be.size)
        have HCELL : Hid (Nd.cells n = [.int .i64 n.kind, .string n.text, .int .i64 n.num, .int .i64 n.kids]) := Lib.hid rfl
        rcases AT.out n.num with ⟨hat1, hat2⟩ | hat
        · have R1 := Lib.hid (show ap1 g n = [n] from by
            unfold ap1
            split
            · rcases HGH.out n.num with ⟨h1, _⟩ | ⟨j', ts, h2, h3, _⟩
              · rw [h1]; rfl
              · exact absurd h3 (hat1 j' (by omega) h2)
            · rfl)
          rw [hat2] at hlk
          clear hat1 hat2
          have AL2 : Below wr.heap.size wr ((wr.alloc (.cells #[.int .i64 n.kind, .string n.text, .int .i64 n.num, .int .i64 n.kids] 58)).alloc (.cells #[.int .i64 n.kind, .string n.text, .int .i64 n.num, .int .i64 n.kids] 58)) := below_two wr _ _
          have ROWA := Lib.hid (show ((wr.alloc (.cells #[.int .i64 n.kind, .string n.text, .int .i64 n.num, .int .i64 n.kids] 58)).alloc (.cells #[.int .i64 n.kind, .string n.text, .int .i64 n.num, .int .i64 n.kids] 58)).ownsRow W.heap.size 58 4 (.slice ql k cl) k (nodeCells acc) from by
            have hrow := hV.out.row
            rw [← hkl] at hrow
            exact World.ownsRow.keep hrow fun g hg => AL2.block g (World.ownsRow.there hrow hg).2)
          have ALH := Lib.hid AL2
          have HLC : Hid (CellsIn ((wr.alloc (.cells #[.int .i64 n.kind, .string n.text, .int .i64 n.num, .int .i64 n.kids] 58)).alloc (.cells #[.int .i64 n.kind, .string n.text, .int .i64 n.num, .int .i64 n.kids] 58)) (wr.heap.size + 1) 0 [.int .i64 n.kind, .string n.text, .int .i64 n.num, .int .i64 n.kids]) := Lib.hid (by
            have := lit_cells (wr.alloc (.cells #[.int .i64 n.kind, .string n.text, .int .i64 n.num, .int .i64 n.kids] 58)) #[.int .i64 n.kind, .string n.text, .int .i64 n.num, .int .i64 n.kids] 58
            rw [show (wr.alloc (.cells #[.int .i64 n.kind, .string n.text, .int .i64 n.num, .int .i64 n.kids] 58)).heap.size = wr.heap.size + 1 by simp] at this
            exact this)
          have HMX := Lib.hid (show k + 1 ≤ maxLen ∧ (k + 1) * 40 ≤ 140737488355328 ∧ W.heap.size ≤ ((wr.alloc (.cells #[.int .i64 n.kind, .string n.text, .int .i64 n.num, .int .i64 n.kids] 58)).alloc (.cells #[.int .i64 n.kind, .string n.text, .int .i64 n.num, .int .i64 n.kids] 58)).heap.size from ⟨by unfold maxLen; omega, by omega, by have := HWL.out; simp; omega⟩)
          clear hn hlx g1 g2 g3 g4 gb gc hkl j1 j2 j3 j4 AL2 hacc hnr cS1 ba mw hu bxl
          gi_wp2_with (gi_at_builtin; refine wpListIn_append_any _ rfl _ _ 22 rfl W.heap.size 58 j0 zeroNode 4 40 Tryz.underlying22 HJ.out.1 HJ.out.2.1 HJ.out.2.2.1 HJ.out.2.2.2 rfl (by decide) (.slice ql k cl) k (nodeCells acc) rfl ROWA.out (some ⟨wr.heap.size + 1, 0, none⟩) 1 1 [.int .i64 n.kind, .string n.text, .int .i64 n.num, .int .i64 n.kids] rfl rfl (fun _ => ⟨_, rfl, CellsIn.at HLC.out⟩) (by intro u hu; simp at hu; rcases hu with rfl | rfl | rfl | rfl <;> rfl) HMX.out.1 HMX.out.2.1 HMX.out.2.2 ?_; intro p' cap' w8 hown hgrow; have RN := Lib.hid hown; have GN := Lib.hid hgrow; clear hown hgrow)
          go_roundw
          case rel =>
            refine ⟨j + 1, by omega, by go_num, ?_, ?_⟩
            · rw [STEP.out, R1.out]
              exact Lib.hid (hV.out.more (v := n) ALH.out GN.out (by rw [← HKL.out, HCELL.out]; exact RN.out))
            · rw [STEP.out, R1.out]
              exact Lib.hid (by rw [List.length_append, List.length_singleton]; have := hA.out; omega)
          case measure => simp; omega
        · by_cases hk : n.kind = 31
          · have t1 : (n.kind == 31) = true := by simpa using hk
            obtain ⟨jx, _, hx2, hx3, hx4, hx5, hx6⟩ := hat
            rw [hx6] at hu
            rw [hx5] at hlk
            have hfx : ∃ ts, g n.num = some ts ∧ NodesAt w (xs.getD jx default).1.2 ts ∧ ts.length ≤ 4000 := by
              rcases HGH.out n.num with ⟨_, h2⟩ | ⟨j', ts, h2, h3, h4, h5, h6, h7⟩
              · exact absurd hx3 (h2 jx hx2)
              · have : j' = jx := by
                  rcases Nat.lt_trichotomy j' jx with h | h | h
                  · exact absurd h3 (hx4 j' (by omega) h)
                  · exact h
                  · exact absurd hx3 (h4 jx h)
                subst this
                exact ⟨ts, h5, h6, h7⟩
            obtain ⟨ts, hts, hnt, htl⟩ := hfx
            obtain ⟨qx, nx, cx, ex, hax⟩ := (xs.getD jx default).2.2
            have hue := SE_inv hu ex hax
            rw [ex] at hue hnt
            subst hue
            obtain ⟨f1, qy, cy, ey, f2, f3, f4⟩ := hnt
            simp only [Value.slice.injEq] at ey
            obtain ⟨rfl, rfl, rfl⟩ := ey
            have R1 := Lib.hid (show ap1 g n = ts from by unfold ap1; rw [if_pos hk, hts]; rfl)
            obtain ⟨m, hm⟩ : ∃ m, m = ts.length := ⟨_, rfl⟩
            have HM := Lib.hid hm
            rw [← hm] at hlk htl
            have ROWA := Lib.hid (show (wr.alloc (.cells #[.int .i64 n.kind, .string n.text, .int .i64 n.num, .int .i64 n.kids] 58)).ownsRow W.heap.size 58 4 (.slice ql k cl) k (nodeCells acc) from by
              have hrow := hV.out.row
              rw [← hkl] at hrow
              exact World.ownsRow.keep hrow fun g hg => ba.block g (World.ownsRow.there hrow hg).2)
            have ALH := Lib.hid ba
            have SRC : Hid (m ≠ 0 → ∃ ad, qx = some ad ∧ ∀ j u, (nodeCells ts)[j]? = some u → (wr.alloc (.cells #[.int .i64 n.kind, .string n.text, .int .i64 n.num, .int .i64 n.kids] 58)).cell? (ad.add j) = some u) := Lib.hid fun h0 => by
              obtain ⟨b', off', rfl, hb', hc'⟩ := f4 (by rw [← hm]; exact h0)
              refine ⟨_, rfl, CellsIn.at (hc'.kept ?_)⟩
              exact (ba.block b' (by have := HWL.out; have := HB1.out.size; omega)).trans ((hV.out.be.block b' (by have := HB1.out.size; omega)).trans (HB1.out.block b' hb'))
            have HMX := Lib.hid (show k + m ≤ maxLen ∧ (k + m) * 40 ≤ 140737488355328 ∧ W.heap.size ≤ (wr.alloc (.cells #[.int .i64 n.kind, .string n.text, .int .i64 n.num, .int .i64 n.kids] 58)).heap.size from ⟨by unfold maxLen; omega, by omega, by have := HWL.out; simp; omega⟩)
            have LN := Lib.hid (show (nodeCells ts).length = m * 4 by rw [length_nodeCells, hm])
            clear hk hn hlx g1 g2 g3 g4 gb gc hkl j1 j2 j3 j4 hacc hnr cS1 ba mw hu bxl hx2 hx3 hx4 hx5 hx6 hts hax ex f1 f2 f3 f4 hm
            gi_wp2_with (gi_at_builtin; refine wpListIn_append_any _ rfl _ _ 22 rfl W.heap.size 58 j0 zeroNode 4 40 Tryz.underlying22 HJ.out.1 HJ.out.2.1 HJ.out.2.2.1 HJ.out.2.2.2 rfl (by decide) (.slice ql k cl) k (nodeCells acc) rfl ROWA.out qx m cx (nodeCells ts) rfl LN.out SRC.out (nodeCells_one ts) HMX.out.1 HMX.out.2.1 HMX.out.2.2 ?_; intro p' cap' w8 hown hgrow; have RN := Lib.hid hown; have GN := Lib.hid hgrow; clear hown hgrow)
            go_roundw
            case rel =>
              refine ⟨j + 1, by omega, by go_num, ?_, ?_⟩
              · rw [STEP.out, R1.out]
                exact Lib.hid (hV.out.many ALH.out GN.out (by rw [← HKL.out, ← HM.out]; exact RN.out))
              · rw [STEP.out, R1.out]
                exact Lib.hid (by rw [List.length_append]; have := hA.out; have := HM.out; omega)
            case measure => simp; omega
          · have t1 : (n.kind == 31) = false := by simpa using hk
            have R1 := Lib.hid (show ap1 g n = [n] from by unfold ap1; rw [if_neg hk])
            obtain ⟨_, _, _, _, _, hx5, _⟩ := hat
            rw [hx5] at hlk
            clear hk hx5
            have AL2 : Below wr.heap.size wr ((wr.alloc (.cells #[.int .i64 n.kind, .string n.text, .int .i64 n.num, .int .i64 n.kids] 58)).alloc (.cells #[.int .i64 n.kind, .string n.text, .int .i64 n.num, .int .i64 n.kids] 58)) := below_two wr _ _
            have ROWA := Lib.hid (show ((wr.alloc (.cells #[.int .i64 n.kind, .string n.text, .int .i64 n.num, .int .i64 n.kids] 58)).alloc (.cells #[.int .i64 n.kind, .string n.text, .int .i64 n.num, .int .i64 n.kids] 58)).ownsRow W.heap.size 58 4 (.slice ql k cl) k (nodeCells acc) from by
              have hrow := hV.out.row
              rw [← hkl] at hrow
              exact World.ownsRow.keep hrow fun g hg => AL2.block g (World.ownsRow.there hrow hg).2)
            have ALH := Lib.hid AL2
            have HLC : Hid (CellsIn ((wr.alloc (.cells #[.int .i64 n.kind, .string n.text, .int .i64 n.num, .int .i64 n.kids] 58)).alloc (.cells #[.int .i64 n.kind, .string n.text, .int .i64 n.num, .int .i64 n.kids] 58)) (wr.heap.size + 1) 0 [.int .i64 n.kind, .string n.text, .int .i64 n.num, .int .i64 n.kids]) := Lib.hid (by
              have := lit_cells (wr.alloc (.cells #[.int .i64 n.kind, .string n.text, .int .i64 n.num, .int .i64 n.kids] 58)) #[.int .i64 n.kind, .string n.text, .int .i64 n.num, .int .i64 n.kids] 58
              rw [show (wr.alloc (.cells #[.int .i64 n.kind, .string n.text, .int .i64 n.num, .int .i64 n.kids] 58)).heap.size = wr.heap.size + 1 by simp] at this
              exact this)
            have HMX := Lib.hid (show k + 1 ≤ maxLen ∧ (k + 1) * 40 ≤ 140737488355328 ∧ W.heap.size ≤ ((wr.alloc (.cells #[.int .i64 n.kind, .string n.text, .int .i64 n.num, .int .i64 n.kids] 58)).alloc (.cells #[.int .i64 n.kind, .string n.text, .int .i64 n.num, .int .i64 n.kids] 58)).heap.size from ⟨by unfold maxLen; omega, by omega, by have := HWL.out; simp; omega⟩)
            clear hn hlx g1 g2 g3 g4 gb gc hkl j1 j2 j3 j4 AL2 hacc hnr cS1 ba mw hu bxl
            gi_wp2_with (gi_at_builtin; refine wpListIn_append_any _ rfl _ _ 22 rfl W.heap.size 58 j0 zeroNode 4 40 Tryz.underlying22 HJ.out.1 HJ.out.2.1 HJ.out.2.2.1 HJ.out.2.2.2 rfl (by decide) (.slice ql k cl) k (nodeCells acc) rfl ROWA.out (some ⟨wr.heap.size + 1, 0, none⟩) 1 1 [.int .i64 n.kind, .string n.text, .int .i64 n.num, .int .i64 n.kids] rfl rfl (fun _ => ⟨_, rfl, CellsIn.at HLC.out⟩) (by intro u hu; simp at hu; rcases hu with rfl | rfl | rfl | rfl <;> rfl) HMX.out.1 HMX.out.2.1 HMX.out.2.2 ?_; intro p' cap' w8 hown hgrow; have RN := Lib.hid hown; have GN := Lib.hid hgrow; clear hown hgrow)
            go_roundw
            case rel =>
              refine ⟨j + 1, by omega, by go_num, ?_, ?_⟩
              · rw [STEP.out, R1.out]
                exact Lib.hid (hV.out.more (v := n) ALH.out GN.out (by rw [← HKL.out, HCELL.out]; exact RN.out))
              · rw [STEP.out, R1.out]
                exact Lib.hid (by rw [List.length_append, List.length_singleton]; have := hA.out; omega)
            case measure => simp; omega
      · obtain rfl : j = tl := by omega
        have et : t.take j = t := List.take_of_length_le (by rw [← HL.out]; omega)
        rw [et] at hV
        have hk2 : wr.heap[D]? = some (.deferred (some [])) := (hV.out.be.block D hDl).trans HK.out
        gi_wp2
        refine ⟨by simp, .inl ⟨_, _, rfl, run_takeDeferred hk2, ?_⟩⟩
        have OWN : ∀ o, (wr.putObj D o).ownsRow w.heap.size 58 4 u8 (apN g t).length (nodeCells (apN g t)) := fun o => World.ownsRow.keep (hV.out.row.base HB1.out.size) (fun g hg => (grownBy_putObj' wr D o).block g (World.ownsRow.there hV.out.row hg).2 (fun e => by simp only [Option.some.injEq] at e; have := (World.ownsRow.there hV.out.row hg).1; omega))
        exact ⟨_, results_tmp rfl _ _ _, u8, rfl, OWN _, (HB1.out.trans (hV.out.be.mono HB1.out.size)).trans (belowK_b (w := w) (Nat.le_refl _) wr D _ _ (by omega) hk2 rfl rfl)⟩
  case stop =>
    rintro D c pre W _ _ h _
    exact h.elim
theorem apply_any (q : Option Addr) (cap : Nat) (xs : List BE) (q2 : Option Addr) (c2 : Nat) (t : List Nd) (g : Int → Option (List Nd)) (w : World) (hns : NodesAt w (.slice q2 t.length c2) t) (hl : t.length ≤ 1000000) (hnum : ∀ n ∈ t, -9223372036854775808 ≤ n.num ∧ n.num ≤ 9223372036854775807) (hreach : xs.length ≤ 100000000)
    (hI : 0 < xs.length → ∃ b off, q = some ⟨b, off, none⟩ ∧ b < w.heap.size ∧ ∀ j, j < xs.length → w.cell? ⟨b, off + j * 2, none⟩ = some (.int .i64 (xs.getD j default).1.1) ∧ w.cell? ⟨b, off + j * 2 + 1, none⟩ = some (xs.getD j default).1.2)
    (HG : ∀ v, (g v = none ∧ ∀ j, j < xs.length → (xs.getD j default).1.1 ≠ v) ∨ ∃ j ts, j < xs.length ∧ (xs.getD j default).1.1 = v ∧ (∀ i, i < j → (xs.getD i default).1.1 ≠ v) ∧ g v = some ts ∧ NodesAt w (xs.getD j default).1.2 ts ∧ ts.length ≤ 4000) :
    Calls Tryz.prog 23 #[.slice q xs.length cap, .slice q2 t.length c2] w fun e w' => ∃ lv, e = .returned lv ∧ w'.ownsRow w.heap.size 58 4 lv (apN g t).length (nodeCells (apN g t)) ∧ Below w.heap.size w w' :=
  (callsIn_wide (n := 3)).1 (apply_in 3 (by omega) q cap xs q2 c2 t g w hns hl hnum hreach hI HG)
end Go.Proofs.YtncifeeinogcnaaGreatDoor
/- Apply by bindings of one's own. -/
set_option maxRecDepth 100000
namespace Go.Proofs.YtncifeeinogcnaaGreatDoor
open Go.RowKit Go.Shelf Go.Lib Go.Maps Go.Proofs.TreeMath

theorem btCells_get (bs : List BT) (j : Nat) (hj : j < bs.length) : (btCells bs)[j * 2]? = some (.int .i64 (bs.getD j default).1) ∧ (btCells bs)[j * 2 + 1]? = some (bs.getD j default).2.2 := by
  induction bs generalizing j with
  | nil => simp at hj
  | cons b bs ih =>
    have e : btCells (b :: bs) = [.int .i64 b.1, b.2.2] ++ btCells bs := by simp [btCells]
    rw [e]
    cases j with
    | zero => exact ⟨rfl, rfl⟩
    | succ j =>
      have := ih j (by simpa using hj)
      rw [List.getElem?_append_right (by simp; omega), List.getElem?_append_right (by simp; omega)]
      simp only [List.length_cons, List.length_nil, List.getD_cons_succ]
      rw [show (j + 1) * 2 - (0 + 1 + 1) = j * 2 by omega, show (j + 1) * 2 + 1 - (0 + 1 + 1) = j * 2 + 1 by omega]
      exact this
theorem be_list (bs : List BT) (h : ∀ b ∈ bs, (Lit.int .i64 b.1).wf = true ∧ ∃ q n c, b.2.2 = .slice q n c ∧ ∀ a, q = some a → a = ⟨a.block, a.off, none⟩) : ∃ xs : List BE, xs.length = bs.length ∧ ∀ j, j < bs.length → (xs.getD j default).1 = ((bs.getD j default).1, (bs.getD j default).2.2) := by
  induction bs with
  | nil => exact ⟨[], rfl, fun j hj => by simp at hj⟩
  | cons b bs ih =>
    obtain ⟨xs, h1, h2⟩ := ih fun c hc => h c (List.mem_cons_of_mem _ hc)
    refine ⟨⟨(b.1, b.2.2), h b List.mem_cons_self⟩ :: xs, by simp [h1], fun j hj => ?_⟩
    cases j with
    | zero => rfl
    | succ j => simp only [List.getD_cons_succ]; exact h2 j (by simpa using hj)
/-- What a variable is told to be: by the first of its bindings. -/
def gB (bs : List BT) (v : Int) : Option (List Nd) := (bs.find? fun b => b.1 == v).map fun b => b.2.1
theorem getD_get {α : Type} [Inhabited α] (l : List α) (j : Nat) (hj : j < l.length) : l.getD j default = l[j] := by rw [List.getD_eq_getElem?_getD, List.getElem?_eq_getElem hj]; rfl
theorem apply_own (B : Nat) (bs : List BT) (lv tv : Value) (t : List Nd) (w : World) (h : BG B bs lv w) (hr : ∀ b ∈ bs, -9223372036854775808 ≤ b.1 ∧ b.1 ≤ 9223372036854775807) (h4 : ∀ b ∈ bs, b.2.1.length ≤ 4000) (hbl : bs.length ≤ 100000000)
    (hns : NodesAt w tv t) (hl : t.length ≤ 1000000) (hnum : ∀ n ∈ t, -9223372036854775808 ≤ n.num ∧ n.num ≤ 9223372036854775807) :
    Calls Tryz.prog 23 #[lv, tv] w fun e w' => ∃ lv, e = .returned lv ∧ w'.ownsRow w.heap.size 58 4 lv (apN (gB bs) t).length (nodeCells (apN (gB bs) t)) ∧ Below w.heap.size w w' := by
  obtain ⟨xs, hxl, hx⟩ := be_list bs fun b hb => by
    have hb1 := hr b hb
    refine ⟨by simp [Lit.wf, IntKind.min, IntKind.max, IntKind.signed, IntKind.bits]; omega, ?_⟩
    rcases (h.2 b hb).2 with ⟨e, _⟩ | ⟨g, cap, cur, e, _⟩
    · exact ⟨none, 0, 0, e, fun a ha => by cases ha⟩
    · exact ⟨_, _, _, e, fun a ha => by cases ha; rfl⟩
  obtain ⟨g1, q, cap, rfl, _, _, g4⟩ := SliceAt.of_owns h.1
  obtain ⟨_, q2, c2, rfl, _, _, _⟩ := id hns
  rw [← hxl]
  refine apply_any q cap xs q2 c2 t (gB bs) w hns hl hnum (by omega) (fun h0 => ?_) (fun v => ?_)
  · obtain ⟨b, off, e, hb, hc⟩ := g4 (by omega)
    refine ⟨b, off, e, hb, fun j hj => ?_⟩
    obtain ⟨c0, c1⟩ := btCells_get bs j (by omega)
    rw [hx j (by omega)]
    exact ⟨hc _ _ c0, hc _ _ c1⟩
  · cases hf : bs.find? fun b => b.1 == v with
    | none =>
      refine .inl ⟨by unfold gB; rw [hf]; rfl, fun j hj => ?_⟩
      rw [hx j (by omega)]
      have := List.find?_eq_none.1 hf (bs.getD j default) (by rw [getD_get bs j (by omega)]; exact List.getElem_mem _)
      simpa using this
    | some b =>
      obtain ⟨hp, j, hj, he, hlt⟩ := List.find?_eq_some_iff_getElem.1 hf
      have hbm : b ∈ bs := by rw [← he]; exact List.getElem_mem _
      have hgj : bs.getD j default = b := by rw [getD_get bs j hj]; exact he
      refine .inr ⟨j, b.2.1, by omega, by rw [hx j hj, hgj]; simpa using hp, fun i hi => ?_, by unfold gB; rw [hf]; rfl, ?_, h4 b hbm⟩
      · rw [hx i (by omega), getD_get bs i (by omega)]
        have := hlt i hi
        simpa using this
      · rw [hx j hj, hgj]
        exact SliceAt.of_owns (h.2 b hbm)
end Go.Proofs.YtncifeeinogcnaaGreatDoor
