/- Texts of this seat, one behind the other: DaS, DfG. -/
import Derived.Test.YtncifeeinogcnaaGreatDoorKn26
import Derived.BigRegion
import Derived.Deep.RegionWith
import Derived.Deep.RegionLaw
import Derived.Test.YtncifeeinogcnaaGreatDoorKn21
import Derived.Deep.AppendSrc
/- The document's Arrow. -/
set_option maxRecDepth 100000
namespace Go.Proofs.YtncifeeinogcnaaGreatDoor
open Go.Shelf Go.RowKit Go.Lib Go.Sort Go.Maps Go.Proofs.TreeMath Go.Proofs.LexMath

theorem drew_first' {w w' : World} (h : Below w.drew.heap.size w.drew w') : Below w.heap.size w w' := ((Below.refl _ _).drew).trans h
theorem lit_slice' (w : World) (cs : Array Value) (t : TypeId) (size n : Nat) (hs : cs.size = n * size) (hm : n ≤ maxLen) : SliceAt (w.alloc (.cells cs t)) size (.slice (some ⟨w.heap.size, 0, none⟩) n n) n cs.toList :=
  ⟨by simpa using hs, _, n, rfl, Nat.le_refl _, hm, fun _ => ⟨_, 0, rfl, by simp, lit_at w cs t⟩⟩
theorem sl50 (b off n c : Nat) (hn : 1 ≤ n) (hnc : n ≤ c) (W : World) :
    (Instr.sliceAt 50 (.slice (some ⟨b, off, none⟩) n c) (some (.int .i64 1)) none none).run Tryz.prog W = .ok (.slice (some ⟨b, if c = 1 then off else off + 1, none⟩) (n - 1) (c - 1)) W := by
  have h1 : (1 : Int) ≤ n := by omega
  by_cases hc : c = 1
  · subst hc
    simp [go_sem, h1]
  · simp [go_sem, h1, hc]
theorem lists_tail {w : World} {b off n c : Nat} {L : List Nd} {Ls : List (List Nd)} (h : ListsAt w (.slice (some ⟨b, off, none⟩) n c) (L :: Ls)) : ListsAt w (.slice (some ⟨b, if c = 1 then off else off + 1, none⟩) (n - 1) (c - 1)) Ls := by
  obtain ⟨vs, ⟨hvl, p, cc, e, hnc, hcm, hp⟩, hvs⟩ := h
  simp only [Value.slice.injEq] at e
  obtain ⟨rfl, rfl, rfl⟩ := e
  obtain ⟨b', off', e, hb, hc⟩ := hp (by simp)
  simp only [Option.some.injEq, Addr.mk.injEq, and_true] at e
  obtain ⟨rfl, rfl⟩ := e
  simp only [List.length_cons, Nat.mul_one] at hvl hnc hvs
  refine ⟨vs.tail, ⟨by rw [List.length_tail]; omega, _, c - 1, by rw [List.length_cons, Nat.add_sub_cancel], by omega, by omega, fun h0 => ⟨b, _, rfl, hb, fun j u hj => ?_⟩⟩, fun i hi => ?_⟩
  · rw [if_neg (by omega)]
    have := hc (j + 1) u (by rw [← hj]; cases vs <;> simp)
    rw [show off + 1 + j = off + (j + 1) by omega]
    exact this
  · have := hvs (i + 1) (by omega)
    cases vs with
    | nil => simp at hvl
    | cons x vs => simpa using this
theorem arrN_cons (L : List Nd) (Ls : List (List Nd)) (tl : List Nd) : arrN (L :: Ls) tl = makeN ⟨32, sArrow, 0, 0⟩ [L, arrN Ls tl] := by
  simp [arrN, arrL, makeN, arrH]
theorem rarrow_zero (v tv : Value) (tl : List Nd) (w : World) (h : ListsAt w v []) (ht : NodesAt w tv tl) : Calls Tryz.prog 34 #[v, tv] w (NRet w (arrN [] tl)) := by
  obtain ⟨q, c, rfl⟩ := h.form
  have F : Hid (NRet w (arrN [] tl) (.returned tv) w) := Lib.hid ⟨tv, rfl, by simpa [arrN, arrL] using ht, Below.refl _ _⟩
  generalize NRet w (arrN [] tl) = Z at F ⊢
  clear h ht
  go_enter Tryz.func34, Tryz.ntmps34
  go_wp2
  first | go_ret | skip
  exact F.out
set_option maxHeartbeats 2000000 in
theorem rarrow_step (L : List Nd) (Ls : List (List Nd)) (tl : List Nd) (ih : ∀ v tv w, ListsAt w v Ls → NodesAt w tv tl → Calls Tryz.prog 34 #[v, tv] w (NRet w (arrN Ls tl))) (v tv : Value) (w : World) (h : ListsAt w v (L :: Ls)) (ht : NodesAt w tv tl) (hs : L.length + (arrN Ls tl).length ≤ 900000) : Calls Tryz.prog 34 #[v, tv] w (NRet w (arrN (L :: Ls) tl)) := by
  obtain ⟨b, off, c, q, cc, rfl, hb, c0, n0⟩ := lists_cell h 0 (by simp)
  rw [arrN_cons]
  simp only [List.getD_cons_zero, Nat.add_zero] at c0 n0
  have HT := Lib.hid (lists_tail h)
  obtain ⟨tq, tc, rfl⟩ := nodes_form' ht
  obtain ⟨n, hn⟩ : ∃ n, n = (L :: Ls).length := ⟨_, rfl⟩
  have hnc : (L :: Ls).length ≤ c := by obtain ⟨_, ⟨_, _, _, e, hnc, _, _⟩, _⟩ := h; simp only [Value.slice.injEq] at e; omega
  rw [← hn] at HT hnc ⊢
  have hn1 : 1 ≤ n := by rw [hn]; simp
  have hn0 : n ≠ 0 := by omega
  have k0 : ((0 : Int) < (n : Int)) := by omega
  have t0 : ((n : Int) == 0) = false := by simp [hn0]
  have S := sl50 b off n c hn1 hnc
  obtain ⟨o2, ho2⟩ : ∃ o2, o2 = (if c = 1 then off else off + 1) := ⟨_, rfl⟩
  simp only [← ho2] at S HT
  have N0 := Lib.hid n0
  have NT := Lib.hid ht
  have RC := Lib.hid (fun W (hW : Below w.heap.size w W) => ih (.slice (some ⟨b, o2, none⟩) (n - 1) (c - 1)) (.slice tq tl.length tc) W (HT.out.below hW) (NT.out.below hW))
  have CC : Hid (∀ W, Below w.heap.size w W → W.cell? ⟨b, off, none⟩ = some (.slice q L.length cc) ∧ b < W.heap.size) := Lib.hid fun W hW => ⟨(hW.cell (p := ⟨b, off, none⟩) hb).trans c0, Nat.lt_of_lt_of_le hb hW.size⟩
  obtain ⟨l, hl⟩ : ∃ l, l = L.length := ⟨_, rfl⟩
  rw [← hl] at CC
  have HLL := Lib.hid hl
  have MK : Hid (∀ W v2, Below w.heap.size w W → NodesAt W v2 (arrN Ls tl) → Calls Tryz.prog 75 #[.agg #[.int .i64 32, .string ⟨#[45, 62]⟩, .int .i64 0, .int .i64 0], .slice (some ⟨W.heap.size, 0, none⟩) 2 2] (W.alloc (.cells #[.slice q l cc, v2] 22)) (NRet (W.alloc (.cells #[.slice q l cc, v2] 22)) (makeN ⟨32, sArrow, 0, 0⟩ [L, arrN Ls tl]))) := Lib.hid fun W v2 hW h2 => by
    have L1 := lit_slice' W #[.slice q l cc, v2] 22 1 2 rfl (by decide)
    have := ref_make ⟨32, sArrow, 0, 0⟩ (.slice (some ⟨W.heap.size, 0, none⟩) 2 2) [L, arrN Ls tl] (W.alloc (.cells #[.slice q l cc, v2] 22)) ⟨_, L1, fun i hi => by
      match i, hi with
      | 0, _ => rw [HLL.out]; exact (N0.out.below hW).below (box_keep _)
      | 1, _ => exact h2.below (box_keep _)⟩ ⟨by simp, by simp; omega⟩
    exact this
  have E : Hid (∀ W e w', Below w.heap.size w W → NRet W (makeN ⟨32, sArrow, 0, 0⟩ [L, arrN Ls tl]) e w' → NRet w (makeN ⟨32, sArrow, 0, 0⟩ [L, arrN Ls tl]) e w') := Lib.hid fun W e w' hW ⟨v, e1, h1, b1⟩ => ⟨v, e1, h1, hW.trans (b1.mono hW.size)⟩
  generalize hz : NRet w (makeN ⟨32, sArrow, 0, 0⟩ [L, arrN Ls tl]) = Z at E ⊢
  obtain ⟨x0, xb⟩ := CC.out w (Below.refl _ _)
  clear h ht hn c0 n0 hb ho2 hl hs hz hnc hn0 ih
  go_enter Tryz.func34, Tryz.ntmps34
  go_wp2
  go_region_with (first
    | (go_at_call 34; refine (RC.out _ (Below.refl _ _).drew).mono ?_; rintro e w3 ⟨v3, rfl, n3, b3⟩; obtain ⟨fq3, fc3, rfl⟩ := nodes_form' n3; have N3 := Lib.hid n3; have B3 := Lib.hid (drew_first' b3); obtain ⟨y0, yb⟩ := CC.out w3 B3.out; clear n3 b3)
    | (go_at_call 75; refine (MK.out w3 _ B3.out N3.out).mono ?_; intro e w4 h4; have F := Lib.hid (E.out _ e w4 (B3.out.trans ((box_keep _).mono B3.out.size)) h4); obtain ⟨v4, rfl, _, _⟩ := h4)
    | fail)
  all_goals go_wp2
  all_goals (first | go_ret | skip)
  all_goals exact F.out
theorem rarrow_any (tl : List Nd) : ∀ (Ls : List (List Nd)) (v tv : Value) (w : World), ListsAt w v Ls → NodesAt w tv tl → (arrN Ls tl).length ≤ 900000 → Calls Tryz.prog 34 #[v, tv] w (NRet w (arrN Ls tl)) := by
  intro Ls
  induction Ls with
  | nil => intro v tv w h ht _; exact rarrow_zero v tv tl w h ht
  | cons L Ls ih =>
    intro v tv w h ht hn
    have e : (arrN (L :: Ls) tl).length = 1 + L.length + (arrN Ls tl).length := by rw [arrN_cons]; simp [makeN]; omega
    exact rarrow_step L Ls tl (fun v tv w h ht => ih v tv w h ht (by omega)) v tv w h ht (by omega)
end Go.Proofs.YtncifeeinogcnaaGreatDoor
/- The document's Make and Arrow: what they answer lies in memory of their own. -/
set_option maxRecDepth 100000
namespace Go.Proofs.YtncifeeinogcnaaGreatDoor
open Go.Shelf Go.RowKit Go.Lib Go.Sort Go.Maps Go.Proofs.TreeMath Go.Proofs.LexMath

theorem ref_makeO_zero (k m s : Int) (t : ByteArray) (p : Option Addr) (c : Nat) (w : World) :
    Calls Tryz.prog 75 #[.agg #[.int .i64 k, .string t, .int .i64 m, .int .i64 s], .slice p 0 c] w (NOwn w [⟨k, t, m, 0⟩]) := by
  go_enter Tryz.func75, Tryz.ntmps75
  go_wp2
  refine wp_loop_rounds 1 ?_
  rw [rounds_succ]
  go_wp2
  go_ret
  refine ⟨_, rfl, ?_, below2 w _ _⟩
  have := owns_node (w.alloc (.cells #[.int .i64 k, .string t, .int .i64 m, .int .i64 s] 58)) w.heap.size ⟨k, t, m, 0⟩ (by simp)
  simpa using this
set_option maxHeartbeats 2000000 in
theorem ref_makeO_some (k m s : Int) (t : ByteArray) (b off n c : Nat) (Ls : List (List Nd)) (w : World) (hb : b < w.heap.size) (hL : Hid (Ls.length = n)) (hn0 : 0 < n) (hn : n ≤ 4000) (hf : Hid (Ls.flatten.length ≤ 900000)) (hv : Hid (Lists w b off Ls)) :
    Calls Tryz.prog 75 #[.agg #[.int .i64 k, .string t, .int .i64 m, .int .i64 s], .slice (some ⟨b, off, none⟩) n c] w (NOwn w (makeN ⟨k, t, m, 0⟩ Ls)) := by
  obtain ⟨i0, hi, hz0, hz1, hz2⟩ := infoNode
  have HI := Lib.hid (And.intro hi (And.intro hz0 (And.intro hz1 hz2)))
  clear hi hz0 hz1 hz2
  go_enter Tryz.func75, Tryz.ntmps75
  go_wp2
  go_loopw [5, 6] (fun o q wr => ∃ (j A g cap : Nat), j ≤ n ∧ q = .int .i64 j ∧ o = .slice (some ⟨g, 0, none⟩) (A + 1) cap ∧ A = sumTo Ls j ∧ wr.ownsRow w.heap.size 58 4 (.slice (some ⟨g, 0, none⟩) (A + 1) cap) (A + 1) (nodeCells (⟨k, t, m, n⟩ :: (Ls.take j).flatten)) ∧ Below w.heap.size w wr) (fun _ q _ => n - (intOf q).toNat)
  case atStart =>
    refine ⟨0, 0, w.heap.size + 1, 1, Nat.zero_le _, rfl, rfl, rfl, ?_, below2 w _ _⟩
    have := owns_node (w.alloc (.cells #[.int .i64 k, .string t, .int .i64 m, .int .i64 s] 58)) w.heap.size ⟨k, t, m, n⟩ (by simp)
    simpa using this
  case round =>
    obtain ⟨j, A, g, cap, hj, rfl, rfl, hA, hown, hbel⟩ := hrel
    have HO := Lib.hid hown
    have HA := Lib.hid hA
    have hsz := hbel.size
    have hAb : A ≤ 900000 := by have := sumTo_le Ls j; have := hf.out; omega
    clear hown hA
    by_cases hlt : j < n
    · obtain ⟨p, x, cp, hcell, hx, hnode⟩ := (hv.out.below hbel hb).one j (by rw [hL.out]; exact hlt)
      have hs1 := sumTo_succ Ls j (by rw [hL.out]; exact hlt)
      have hs2 := sumTo_le Ls (j + 1)
      have hxb : A + x ≤ 900000 := by have := hf.out; have := HA.out; omega
      have hsrc : x ≠ 0 → ∃ ad, p = some ad ∧ ∀ i v, (nodeCells (Ls.getD j []))[i]? = some v → wr.cell? (ad.add i) = some v := by
        intro h0
        obtain ⟨_, p2, c2, h1, _, _, h4⟩ := hnode
        simp only [Value.slice.injEq] at h1
        obtain ⟨rfl, h2, _⟩ := h1
        obtain ⟨bb, oo, rfl, _, hc⟩ := h4 (by omega)
        exact ⟨_, rfl, hc.at⟩
      have HS : Hid (A + x = sumTo Ls (j + 1)) := Lib.hid (by have := HA.out; omega)
      obtain ⟨Y, hY⟩ : ∃ Y, Y = nodeCells (Ls.getD j []) := ⟨_, rfl⟩
      have hYl : Y.length = x * 4 := by rw [hY, length_nodeCells, hx]
      rw [← hY] at hsrc
      have HY := Lib.hid hY
      have HYl := Lib.hid hYl
      have HSrc := Lib.hid hsrc
      have H1 : Hid (∀ u ∈ Y, u.oneCell' = true) := Lib.hid (by rw [hY]; exact nodeCells_one _)
      clear hs1 hs2 hx hnode hY hYl hsrc
      go_wp2_with ((at_builtin; refine wpList_append_view _ rfl _ _ 22 rfl w.heap.size 58 i0 zeroNode 4 40 Tryz.underlying22 HI.out.1 HI.out.2.1 HI.out.2.2.1 HI.out.2.2.2 rfl (by decide) g (A + 1) cap _ rfl HO.out p x cp Y rfl HYl.out HSrc.out H1.out (by unfold maxLen; omega) (by omega) hsz ?_; intro v' w3 hown' hgrow hv3; obtain ⟨g3, c3, hv3⟩ := hv3; subst hv3; have HO3 := Lib.hid hown'; have hbel3 : Below w.heap.size w w3 := hbel.grown hgrow hsz (fun q hq => by have := HO.out.lt q hq; exact this.1); clear hown' hgrow))
      go_roundw
      case rel => exact ⟨j + 1, A + x, g3, c3, by omega, by go_num, by rw [show A + 1 + x = A + x + 1 by omega], HS.out, by
        have h9 := HO3.out
        rw [HY.out, ← nodeCells_append, List.cons_append, ← take_flat Ls j (by rw [hL.out]; exact hlt), show A + 1 + x = A + x + 1 by omega] at h9
        exact h9, hbel3⟩
      case measure => simp [intOf]; omega
    · obtain rfl : j = n := by omega
      go_wp2
      go_ret
      refine ⟨_, rfl, ?_, hbel⟩
      have h9 := HO.out
      have hA := HA.out
      rw [← hL.out, sumTo_all] at hA
      unfold makeN
      rw [hL.out, List.length_cons, ← hA]
      rw [List.take_of_length_le (by rw [hL.out]; exact Nat.le_refl _)] at h9
      exact h9
theorem ref_makeO (x : Nd) (v : Value) (Ls : List (List Nd)) (w : World) (h : ListsAt w v Ls) (hs : sumLen Ls) : Calls Tryz.prog 75 #[x.val, v] w (NOwn w (makeN x Ls)) := by
  obtain ⟨k, t, m, s⟩ := x
  obtain ⟨vs, ⟨hl, p, c, rfl, _, _, h4⟩, hv⟩ := h
  by_cases h0 : Ls.length = 0
  · obtain rfl : Ls = [] := List.eq_nil_of_length_eq_zero h0
    exact ref_makeO_zero k m s t p c w
  · obtain ⟨b, off, rfl, hb, hc⟩ := h4 h0
    refine ref_makeO_some k m s t b off Ls.length c Ls w hb rfl (by omega) hs.1 hs.2 ?_
    intro i hi
    refine ⟨vs.getD i default, hc i _ ?_, hv i hi⟩
    rw [List.getD_eq_getElem?_getD, List.getElem?_eq_getElem (by omega)]
    rfl

def ArO (w : World) (tv : Value) (ns : List Nd) (e : Ending) (w' : World) : Prop := ∃ v, e = .returned v ∧ NodesAt w' v ns ∧ Below w.heap.size w w' ∧ (v = tv ∨ ∀ g, v.ownBlock = some g → w.heap.size ≤ g ∧ g < w'.heap.size)
theorem rarrowO_zero (v tv : Value) (tl : List Nd) (w : World) (h : ListsAt w v []) (ht : NodesAt w tv tl) : Calls Tryz.prog 34 #[v, tv] w (ArO w tv (arrN [] tl)) := by
  obtain ⟨q, c, rfl⟩ := h.form
  have F : Hid (ArO w tv (arrN [] tl) (.returned tv) w) := Lib.hid ⟨tv, rfl, by simpa [arrN, arrL] using ht, Below.refl _ _, .inl rfl⟩
  generalize ArO w tv (arrN [] tl) = Z at F ⊢
  clear h ht
  go_enter Tryz.func34, Tryz.ntmps34
  go_wp2
  first | go_ret | skip
  exact F.out
set_option maxHeartbeats 2000000 in
theorem rarrowO_step (L : List Nd) (Ls : List (List Nd)) (tl : List Nd) (ih : ∀ v tv w, ListsAt w v Ls → NodesAt w tv tl → Calls Tryz.prog 34 #[v, tv] w (NRet w (arrN Ls tl))) (v tv : Value) (w : World) (h : ListsAt w v (L :: Ls)) (ht : NodesAt w tv tl) (hs : L.length + (arrN Ls tl).length ≤ 900000) : Calls Tryz.prog 34 #[v, tv] w (ArO w tv (arrN (L :: Ls) tl)) := by
  obtain ⟨b, off, c, q, cc, rfl, hb, c0, n0⟩ := lists_cell h 0 (by simp)
  rw [arrN_cons]
  simp only [List.getD_cons_zero, Nat.add_zero] at c0 n0
  have HT := Lib.hid (lists_tail h)
  obtain ⟨tq, tc, rfl⟩ := nodes_form' ht
  obtain ⟨n, hn⟩ : ∃ n, n = (L :: Ls).length := ⟨_, rfl⟩
  have hnc : (L :: Ls).length ≤ c := by obtain ⟨_, ⟨_, _, _, e, hnc, _, _⟩, _⟩ := h; simp only [Value.slice.injEq] at e; omega
  rw [← hn] at HT hnc ⊢
  have hn1 : 1 ≤ n := by rw [hn]; simp
  have hn0 : n ≠ 0 := by omega
  have k0 : ((0 : Int) < (n : Int)) := by omega
  have t0 : ((n : Int) == 0) = false := by simp [hn0]
  have S := sl50 b off n c hn1 hnc
  obtain ⟨o2, ho2⟩ : ∃ o2, o2 = (if c = 1 then off else off + 1) := ⟨_, rfl⟩
  simp only [← ho2] at S HT
  have N0 := Lib.hid n0
  have NT := Lib.hid ht
  have RC := Lib.hid (fun W (hW : Below w.heap.size w W) => ih (.slice (some ⟨b, o2, none⟩) (n - 1) (c - 1)) (.slice tq tl.length tc) W (HT.out.below hW) (NT.out.below hW))
  have CC : Hid (∀ W, Below w.heap.size w W → W.cell? ⟨b, off, none⟩ = some (.slice q L.length cc) ∧ b < W.heap.size) := Lib.hid fun W hW => ⟨(hW.cell (p := ⟨b, off, none⟩) hb).trans c0, Nat.lt_of_lt_of_le hb hW.size⟩
  obtain ⟨l, hl⟩ : ∃ l, l = L.length := ⟨_, rfl⟩
  rw [← hl] at CC
  have HLL := Lib.hid hl
  have MK : Hid (∀ W v2, Below w.heap.size w W → NodesAt W v2 (arrN Ls tl) → Calls Tryz.prog 75 #[.agg #[.int .i64 32, .string ⟨#[45, 62]⟩, .int .i64 0, .int .i64 0], .slice (some ⟨W.heap.size, 0, none⟩) 2 2] (W.alloc (.cells #[.slice q l cc, v2] 22)) (NOwn (W.alloc (.cells #[.slice q l cc, v2] 22)) (makeN ⟨32, sArrow, 0, 0⟩ [L, arrN Ls tl]))) := Lib.hid fun W v2 hW h2 => by
    have L1 := lit_slice' W #[.slice q l cc, v2] 22 1 2 rfl (by decide)
    have := ref_makeO ⟨32, sArrow, 0, 0⟩ (.slice (some ⟨W.heap.size, 0, none⟩) 2 2) [L, arrN Ls tl] (W.alloc (.cells #[.slice q l cc, v2] 22)) ⟨_, L1, fun i hi => by
      match i, hi with
      | 0, _ => rw [HLL.out]; exact (N0.out.below hW).below (box_keep _)
      | 1, _ => exact h2.below (box_keep _)⟩ ⟨by simp, by simp; omega⟩
    exact this
  have E : Hid (∀ W e w', Below w.heap.size w W → NOwn W (makeN ⟨32, sArrow, 0, 0⟩ [L, arrN Ls tl]) e w' → ArO w (.slice tq tl.length tc) (makeN ⟨32, sArrow, 0, 0⟩ [L, arrN Ls tl]) e w') := Lib.hid fun W e w' hW ⟨v, e1, h1, b1⟩ => ⟨v, e1, SliceAt.of_owns h1, hW.trans (b1.mono hW.size), .inr fun g hg => ⟨Nat.le_trans hW.size (World.ownsRow.there h1 hg).1, (World.ownsRow.there h1 hg).2⟩⟩
  generalize hz : ArO w (.slice tq tl.length tc) (makeN ⟨32, sArrow, 0, 0⟩ [L, arrN Ls tl]) = Z at E ⊢
  obtain ⟨x0, xb⟩ := CC.out w (Below.refl _ _)
  clear h ht hn c0 n0 hb ho2 hl hs hz hnc hn0 ih
  go_enter Tryz.func34, Tryz.ntmps34
  go_wp2
  go_region_with (first
    | (go_at_call 34; refine (RC.out _ (Below.refl _ _).drew).mono ?_; rintro e w3 ⟨v3, rfl, n3, b3⟩; obtain ⟨fq3, fc3, rfl⟩ := nodes_form' n3; have N3 := Lib.hid n3; have B3 := Lib.hid (drew_first' b3); obtain ⟨y0, yb⟩ := CC.out w3 B3.out; clear n3 b3)
    | (go_at_call 75; refine (MK.out w3 _ B3.out N3.out).mono ?_; intro e w4 h4; have F := Lib.hid (E.out _ e w4 (B3.out.trans ((box_keep _).mono B3.out.size)) h4); obtain ⟨v4, rfl, _, _⟩ := h4)
    | fail)
  all_goals go_wp2
  all_goals (first | go_ret | skip)
  all_goals exact F.out
theorem rarrowO_any (tl : List Nd) (Ls : List (List Nd)) (v tv : Value) (w : World) (h : ListsAt w v Ls) (ht : NodesAt w tv tl) (hn : (arrN Ls tl).length ≤ 900000) : Calls Tryz.prog 34 #[v, tv] w (ArO w tv (arrN Ls tl)) := by
  cases Ls with
  | nil => exact rarrowO_zero v tv tl w h ht
  | cons L Ls =>
    have e : (arrN (L :: Ls) tl).length = 1 + L.length + (arrN Ls tl).length := by rw [arrN_cons]; simp [makeN]; omega
    exact rarrowO_step L Ls tl (fun v tv w h ht => rarrow_any tl Ls v tv w h ht (by omega)) v tv w h ht (by omega)
end Go.Proofs.YtncifeeinogcnaaGreatDoor
