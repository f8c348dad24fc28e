/- Texts of this seat, one behind the other: RfA, RfB, ApE, CaA, CaB, LwA. -/
import Derived.Test.YtncifeeinogcnaaGreatDoorKn18
import Derived.Test.YtncifeeinogcnaaGreatDoorKn21
/- The document's own answers: where a number stands; the variables. -/
set_option maxRecDepth 100000
namespace Go.Proofs.YtncifeeinogcnaaGreatDoor
open Go.RowKit Go.Lib Go.Maps Go.Proofs.TreeMath

def placeI (l : List Int) (n : Int) : Int := if n ∈ l then (l.idxOf n : Int) else -1
theorem place_lt (l : List Int) (n : Int) : decide (placeI l n < 0) = decide (n ∉ l) := by
  unfold placeI
  split
  · rename_i h
    rw [decide_eq_false (by omega), decide_eq_false (by simpa using h)]
  · rename_i h
    rw [decide_eq_true (by omega), decide_eq_true h]
theorem idxOf_at {l : List Int} {n : Int} {j : Nat} (hj : j < l.length) (he : l.getD j 0 = n) (hn : ∀ i, i < j → l.getD i 0 ≠ n) : placeI l n = j := by
  induction l generalizing j with
  | nil => simp at hj
  | cons a l ih =>
    cases j with
    | zero =>
      simp only [List.getD_cons_zero] at he
      subst he
      simp [placeI]
    | succ j =>
      have ha : a ≠ n := by have := hn 0 (by omega); simpa using this
      have h1 := ih (j := j) (by simpa using hj) (by simpa using he) (fun i hi => by have := hn (i + 1) (by omega); simpa using this)
      unfold placeI at h1 ⊢
      have hm : n ∈ l := by
        apply Classical.byContradiction
        intro h
        rw [if_neg h] at h1
        omega
      rw [if_pos hm] at h1
      have h2 : (a :: l).idxOf n = l.idxOf n + 1 := by
        rw [List.idxOf_cons, show (a == n) = false by simpa using ha]; rfl
      rw [if_pos (List.mem_cons_of_mem _ hm), h2]
      omega
theorem idxOf_none {l : List Int} {n : Int} (hn : ∀ i, i < l.length → l.getD i 0 ≠ n) : placeI l n = -1 := by
  unfold placeI
  rw [if_neg]
  intro h
  obtain ⟨i, hi, he⟩ := List.getElem_of_mem h
  refine hn i hi ?_
  rw [List.getD_eq_getElem?_getD, List.getElem?_eq_getElem hi]; exact he
set_option maxHeartbeats 1000000 in
theorem place_any (v : Value) (l : List Int) (n : Int) (w : World) (h : IntsAt w v l) (hl : l.length ≤ 1000000) : Calls Tryz.prog 55 #[v, .int .i64 n] w fun e w' => e = .returned (.int .i64 (placeI l n)) ∧ w = w' := by
  obtain ⟨_, p, c, rfl, _, _, h4⟩ := h
  have CELL := Lib.hid h4
  obtain ⟨k, hk⟩ : ∃ k, k = l.length := ⟨_, rfl⟩
  have HK := Lib.hid hk
  rw [← hk] at hl ⊢
  clear hk h4
  go_enter Tryz.func55, Tryz.ntmps55
  go_wp2
  go_loop [5] (fun i => ∃ j : Nat, j ≤ k ∧ i = .int .i64 j ∧ Hid (∀ i, i < j → l.getD i 0 ≠ n)) (fun i => k - (intOf i).toNat)
  case atStart => exact ⟨0, Nat.zero_le _, rfl, Lib.hid fun i hi => by omega⟩
  case round =>
    obtain ⟨j, hj, rfl, hn⟩ := hrel
    by_cases hlt : j < k
    · obtain ⟨b, o, rfl, _, hc⟩ := CELL.out (by rw [← HK.out]; omega)
      have c0 := hc.int j (by rw [← HK.out]; exact hlt)
      obtain ⟨a, ha⟩ : ∃ a, a = l.getD j 0 := ⟨_, rfl⟩
      rw [← ha] at c0
      have HA := Lib.hid ha
      clear hc ha
      by_cases e : a = n
      · have E := Lib.hid (idxOf_at (l := l) (n := n) (j := j) (by rw [← HK.out]; exact hlt) (by rw [← HA.out]; exact e) hn.out)
        have t1 : (a == n) = true := by simpa using e
        clear hn e
        go_wp2
        go_ret
        exact ⟨by rw [E.out]; rfl, rfl⟩
      · have t1 : (a == n) = false := by simpa using e
        have N2 : Hid (∀ i, i < j + 1 → l.getD i 0 ≠ n) := Lib.hid fun i hi => by
          by_cases h : i = j
          · subst h; rw [← HA.out]; exact e
          · exact hn.out i (by omega)
        clear hn e
        go_wp2
        go_round
        case rel => exact ⟨j + 1, by omega, by go_num, N2⟩
        case measure => simp [intOf]; omega
    · obtain rfl : j = k := by omega
      have E := Lib.hid (idxOf_none (l := l) (n := n) (by rw [← HK.out]; exact hn.out))
      clear hn hlt
      go_wp2
      go_ret
      exact ⟨by rw [E.out]; rfl, rfl⟩
structure VR (w : World) (acc : List Int) (lv : Value) (i : Nat) (wr : World) : Prop where
  row : wr.ownsRow w.heap.size 3 1 lv acc.length (intCells acc)
  len : acc.length ≤ i
  be : Below w.heap.size w wr
theorem VR.more {w : World} {acc : List Int} {lv nv : Value} {i : Nat} {wr w1 w2 : World} {v : Int} (h : VR w acc lv i wr) (b1 : Below wr.heap.size wr w1) (g : w1.grownBy w2 lv.ownBlock) (hn : w2.ownsRow w.heap.size 3 1 nv (acc.length + 1) (intCells acc ++ [.int .i64 v])) : VR w (acc ++ [v]) nv (i + 1) w2 := by
  refine ⟨?_, by rw [List.length_append, List.length_singleton]; have := h.len; omega, (h.be.trans (b1.mono h.be.size)).grown g (Nat.le_trans h.be.size b1.size) fun k e => (World.ownsRow.there h.row e).1⟩
  rw [List.length_append, List.length_singleton, show intCells (acc ++ [v]) = intCells acc ++ [.int .i64 v] by simp [intCells]]
  exact hn
def RvarsP (t : List Nd) (w : World) (e : Ending) (w' : World) : Prop := ∃ lv, e = .returned lv ∧ w'.ownsRow w.heap.size 3 1 lv (varsN t).length (intCells (varsN t)) ∧ Below w.heap.size w w'
set_option maxHeartbeats 4000000 in
theorem rvars_any (tv : Value) (t : List Nd) (w : World) (hns : NodesAt w tv t) (hl : t.length ≤ 1000000) : Calls Tryz.prog 19 #[tv] w (RvarsP t w) := by
  obtain ⟨q, c, rfl⟩ : ∃ q c, tv = .slice q t.length c := by obtain ⟨_, q, c, e, _⟩ := hns; exact ⟨q, c, e⟩
  have V0 : Hid (VR w [] (.slice (some ⟨w.heap.size, 0, none⟩) 0 0) 0 (w.alloc (.cells #[] 3))) := Lib.hid ⟨World.ownsRow_made w #[] 0 (Nat.le_refl _) (by unfold maxLen; omega) (by rfl), Nat.le_refl _, (Below.refl _ _).alloc (Nat.le_refl _) _⟩
  have NS := Lib.hid (fun W (b : Below w.heap.size w W) => hns.below b)
  obtain ⟨l, hlen⟩ : ∃ l, l = t.length := ⟨_, rfl⟩
  have HL := Lib.hid hlen
  rw [← hlen] at NS hl ⊢
  clear hns hlen
  go_enter Tryz.func19, Tryz.ntmps19
  go_wp2
  go_loopw [3, 4] (fun lv i wr => ∃ j : Nat, j ≤ l ∧ i = .int .i64 j ∧ Hid (VR w (varsN (t.take j)) lv j wr)) (fun _ i _ => l - (intOf i).toNat)
  case atStart => exact ⟨0, Nat.zero_le _, rfl, V0⟩
  case round =>
    obtain ⟨j, hj, rfl, hV⟩ := hrel
    clear V0
    by_cases hlt : j < l
    · obtain ⟨n, hn⟩ : ∃ n, n = t.getD j default := ⟨_, rfl⟩
      obtain ⟨g1, q', c', e', g2, g3, g4⟩ := NS.out wr hV.out.be
      obtain ⟨b, o, rfl, gb, gc⟩ := g4 (by rw [← HL.out]; omega)
      simp only [Value.slice.injEq] at e'
      obtain ⟨rfl, hlx, rfl⟩ := e'
      obtain ⟨a0, a1, a2, a3⟩ := CellsIn.node gc j (by rw [← HL.out]; exact hlt)
      rw [← hn] at a0 a1 a2 a3
      have STEP := Lib.hid (varsN_take t j (by rw [← HL.out]; exact hlt))
      rw [← hn] at STEP
      by_cases hk : n.kind = 31
      · have t1 : (n.kind == 31) = true := by simpa using hk
        have PL := place_any u3 (varsN (t.take j)) n.num wr (SliceAt.of_owns hV.out.row) (by have := hV.out.len; omega)
        by_cases hm : n.num ∈ varsN (t.take j)
        · have t2 : decide (placeI (varsN (t.take j)) n.num < 0) = false := by rw [place_lt]; simpa using hm
          have V2 : Hid (VR w (varsN (t.take (j + 1))) u3 (j + 1) wr) := Lib.hid (by
            rw [STEP.out, show vstep (varsN (t.take j)) n = varsN (t.take j) by unfold vstep; rw [if_neg fun h => h.2 hm]]
            exact ⟨hV.out.row, by have := hV.out.len; omega, hV.out.be⟩)
          have PLH := Lib.hid PL
          generalize placeI (varsN (t.take j)) n.num = pl at *
          clear hn hlx g1 g2 g3 g4 gb gc hk hm PL hV STEP
          go_wp2_with fail
          refine PLH.out.mono ?_
          rintro e w1 ⟨rfl, rfl⟩
          clear PLH
          go_wp2
          go_roundw
          case rel => exact ⟨j + 1, by omega, by go_num, V2⟩
          case measure => simp [intOf]; omega
        · have t2 : decide (placeI (varsN (t.take j)) n.num < 0) = true := by rw [place_lt]; simpa using hm
          rw [show vstep (varsN (t.take j)) n = varsN (t.take j) ++ [n.num] by unfold vstep; rw [if_pos ⟨hk, hm⟩]] at STEP
          have PLH := Lib.hid PL
          generalize placeI (varsN (t.take j)) n.num = pl at *
          obtain ⟨acc, hacc⟩ : ∃ acc, acc = varsN (t.take j) := ⟨_, rfl⟩
          rw [← hacc] at hV STEP
          obtain ⟨ql, cl, hql⟩ := row_form hV.out.row
          obtain ⟨k, hkl⟩ : ∃ k, k = acc.length := ⟨_, rfl⟩
          rw [← hkl] at hql
          subst hql
          have HKL := Lib.hid hkl
          have hkj : k ≤ j := by have := hV.out.len; omega
          have AL2 : Below wr.heap.size wr (wr.alloc (.cells #[.int .i64 n.num] 3)) := (Below.refl wr.heap.size wr).alloc (Nat.le_refl _) _
          have ROWA := Lib.hid (show (wr.alloc (.cells #[.int .i64 n.num] 3)).ownsRow w.heap.size 3 1 (.slice ql k cl) k (intCells acc) from by
            have hrow := hV.out.row
            rw [← hkl] at hrow
            exact World.ownsRow.keep hrow fun g hg => AL2.block g (World.ownsRow.there hrow hg).2)
          have ALH := Lib.hid AL2
          have HLC := Lib.hid (lit_cells wr #[.int .i64 n.num] 3)
          obtain ⟨j0, j1, j2, j3, j4⟩ := info3
          have HJ := Lib.hid (And.intro j1 (And.intro j2 (And.intro j3 j4)))
          have HMX := Lib.hid (show k + 1 ≤ maxLen ∧ (k + 1) * 8 ≤ 140737488355328 ∧ w.heap.size ≤ (wr.alloc (.cells #[.int .i64 n.num] 3)).heap.size from ⟨by unfold maxLen; omega, by omega, by have := hV.out.be.size; simp; omega⟩)
          clear hn hlx g1 g2 g3 g4 gb gc hk hm PL hkl j1 j2 j3 j4 AL2 hacc
          go_wp2_with fail
          refine PLH.out.mono ?_
          rintro e w1 ⟨rfl, rfl⟩
          clear PLH
          go_wp2_with (at_builtin; refine wpList_append_any _ rfl _ _ 30 rfl w.heap.size 3 j0 (.int .i64 0) 1 8 Tryz.underlying30 HJ.out.1 HJ.out.2.1 HJ.out.2.2.1 HJ.out.2.2.2 rfl (by decide) (.slice ql k cl) k (intCells acc) rfl ROWA.out (some ⟨wr.heap.size, 0, none⟩) 1 1 [.int .i64 n.num] rfl rfl (fun _ => ⟨_, rfl, CellsIn.at HLC.out⟩) (by intro u hu; simp at hu; rw [hu]; rfl) HMX.out.1 HMX.out.2.1 HMX.out.2.2 ?_; intro p' cap' w8 hown hgrow hblk; have RN := Lib.hid hown; have GN := Lib.hid hgrow; clear hown hgrow hblk)
          go_roundw
          case rel =>
            refine ⟨j + 1, by omega, by go_num, ?_⟩
            rw [STEP.out]
            exact Lib.hid (hV.out.more ALH.out GN.out (by rw [← HKL.out]; exact RN.out))
          case measure => simp [intOf]; omega
      · have t1 : (n.kind == 31) = false := by simpa using hk
        have V2 : Hid (VR w (varsN (t.take (j + 1))) u3 (j + 1) wr) := Lib.hid (by
          rw [STEP.out, show vstep (varsN (t.take j)) n = varsN (t.take j) by unfold vstep; rw [if_neg fun h => hk h.1]]
          exact ⟨hV.out.row, by have := hV.out.len; omega, hV.out.be⟩)
        clear hn hlx g1 g2 g3 g4 gb gc hk hV STEP
        go_wp2
        go_roundw
        case rel => exact ⟨j + 1, by omega, by go_num, V2⟩
        case measure => simp [intOf]; omega
    · obtain rfl : j = l := by omega
      have et : t.take j = t := List.take_of_length_le (by rw [← HL.out]; omega)
      rw [et] at hV
      have E : Hid (RvarsP t w (.returned u3) wr) := ⟨u3, rfl, hV.out.row, hV.out.be⟩
      clear hV hlt et
      go_wp2
      go_ret
      exact E.out
end Go.Proofs.YtncifeeinogcnaaGreatDoor
/- The document's own answers: variables from 0 on. -/
set_option maxRecDepth 100000
namespace Go.Proofs.YtncifeeinogcnaaGreatDoor
open Go.RowKit Go.Lib Go.Maps Go.Proofs.TreeMath

structure NR (w : World) (acc : List Nd) (lv : Value) (wr : World) : Prop where
  row : wr.ownsRow w.heap.size 58 4 lv acc.length (nodeCells acc)
  be : Below w.heap.size w wr
theorem NR.below {w : World} {acc : List Nd} {lv : Value} {wr w1 : World} (h : NR w acc lv wr) (b1 : Below wr.heap.size wr w1) : NR w acc lv w1 := ⟨World.ownsRow.keep h.row fun g hg => b1.block g (World.ownsRow.there h.row hg).2, h.be.trans (b1.mono h.be.size)⟩
end Go.Proofs.YtncifeeinogcnaaGreatDoor
/- The contract of Apply. -/
set_option maxRecDepth 100000
namespace Go.Proofs.YtncifeeinogcnaaGreatDoor
open Go.RowKit Go.Shelf Go.Lib Go.Maps Go.Proofs.TreeMath
attribute [local go_sem] Oper.semAt_some

theorem NR.many {w : World} {acc ts : List Nd} {lv nv : Value} {wr w1 w2 : World} (h : NR w acc lv wr) (b1 : Below wr.heap.size wr w1) (g : w1.grownBy w2 lv.ownBlock) (hn : w2.ownsRow w.heap.size 58 4 nv (acc.length + ts.length) (nodeCells acc ++ nodeCells ts)) : NR w (acc ++ ts) nv w2 := by
  refine ⟨?_, (h.be.trans (b1.mono h.be.size)).grown g (Nat.le_trans h.be.size b1.size) fun k e => (World.ownsRow.there h.row e).1⟩
  rw [List.length_append, show nodeCells (acc ++ ts) = nodeCells acc ++ nodeCells ts by simp [nodeCells]]
  exact hn
end Go.Proofs.YtncifeeinogcnaaGreatDoor
/- Canon: its bindings. -/
set_option maxRecDepth 100000
namespace Go.Proofs.YtncifeeinogcnaaGreatDoor
open Go.RowKit Go.Lib Go.Maps Go.Proofs.TreeMath

def cb (vs : List Int) (k : Nat) : List (Int × List Nd) := (List.range k).map fun i => (vs.getD i 0, [vN i])
theorem varsN_len (t : List Nd) : (varsN t).length ≤ t.length := by
  have : ∀ (t : List Nd) (acc : List Int), (t.foldl vstep acc).length ≤ acc.length + t.length := by
    intro t
    induction t with
    | nil => intro acc; simp
    | cons n t ih =>
      intro acc
      have h1 := ih (vstep acc n)
      have h2 : (vstep acc n).length ≤ acc.length + 1 := by unfold vstep; split <;> simp
      rw [List.foldl_cons, List.length_cons]; omega
  have := this t []
  simpa [varsN] using this
end Go.Proofs.YtncifeeinogcnaaGreatDoor
/- The contract of Canon. -/
set_option maxRecDepth 100000
namespace Go.Proofs.YtncifeeinogcnaaGreatDoor
open Go.RowKit Go.Lib Go.Maps Go.Proofs.TreeMath

structure CI (w : World) (vs : List Int) (vv : Value) (j : Nat) (bs : List BT) (lv : Value) (wr : World) : Prop where
  bg : BG w.heap.size bs lv wr
  row : wr.ownsRow w.heap.size 3 1 vv vs.length (intCells vs)
  eq : prs bs = cb vs j
  be : Below w.heap.size w wr
theorem CI.below {w : World} {vs : List Int} {vv lv : Value} {j : Nat} {bs : List BT} {wr w2 : World} (h : CI w vs vv j bs lv wr) (b : Below wr.heap.size wr w2) : CI w vs vv j bs lv w2 :=
  ⟨h.bg.keep fun g _ _ _ hg _ => b.block g (Array.getElem?_eq_some_iff.1 hg).1, World.ownsRow.keep h.row fun g hg => b.block g (World.ownsRow.there h.row hg).2, h.eq, h.be.trans (b.mono h.be.size)⟩
end Go.Proofs.YtncifeeinogcnaaGreatDoor
/- The laws' mathematics: bindings are determined by what is put for variables. -/
set_option maxRecDepth 100000
namespace Go.Proofs.YtncifeeinogcnaaGreatDoor
open Go.Proofs.TreeMath

open Classical in
theorem binds_filter (s : Int → T) (ks : List Int) : bindsOf s ks = (ks.filter fun k => decide (s k ≠ vT k)).map fun k => (k, flatT (s k)) := by
  induction ks with
  | nil => rfl
  | cons k ks ih =>
    have e : bindsOf s (k :: ks) = bind1 s k ++ bindsOf s ks := by simp [bindsOf]
    rw [e, ih, List.filter_cons]
    by_cases h : s k = vT k
    · rw [bind1_self h, if_neg (by simp [h])]; rfl
    · rw [bind1_more h, if_pos (by simp [h])]; rfl
theorem binds_mem (s : Int → T) (ks : List Int) (p : Int × List Nd) (h : p ∈ bindsOf s ks) : p.1 ∈ ks ∧ s p.1 ≠ vT p.1 ∧ p.2 = flatT (s p.1) := by
  classical
  rw [binds_filter] at h
  simp only [List.mem_map, List.mem_filter, decide_eq_true_eq] at h
  obtain ⟨k, ⟨h1, h2⟩, rfl⟩ := h
  exact ⟨h1, h2, rfl⟩
theorem binds_len (s : Int → T) (ks : List Int) : (bindsOf s ks).length ≤ ks.length := by
  classical
  rw [binds_filter, List.length_map]
  exact List.length_filter_le _ _
end Go.Proofs.YtncifeeinogcnaaGreatDoor
