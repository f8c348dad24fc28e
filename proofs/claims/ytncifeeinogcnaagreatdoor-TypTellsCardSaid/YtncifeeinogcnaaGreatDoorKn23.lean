/- Texts of this seat, one behind the other: RfB. -/
import Derived.Test.YtncifeeinogcnaaGreatDoorKn22
/- The document's own answers: variables from 0 on. -/
set_option maxRecDepth 100000
namespace Go.Proofs.YtncifeeinogcnaaGreatDoor
open Go.RowKit Go.Lib Go.Maps Go.Proofs.TreeMath

def canon1 (v : List Int) (n : Nd) : Nd := if n.kind = 31 then { n with num := placeI v n.num } else n
def canonN (t : List Nd) : List Nd := t.map (canon1 (varsN t))
structure NR (w : World) (acc : List Nd) (lv : Value) (wr : World) : Prop where
  row : wr.ownsRow w.heap.size 58 4 lv acc.length (nodeCells acc)
  be : Below w.heap.size w wr
theorem NR.more {w : World} {acc : List Nd} {lv nv : Value} {wr w1 w2 : World} {v : Nd} (h : NR w acc lv wr) (b1 : Below wr.heap.size wr w1) (g : w1.grownBy w2 lv.ownBlock) (hn : w2.ownsRow w.heap.size 58 4 nv (acc.length + 1) (nodeCells acc ++ v.cells)) : NR w (acc ++ [v]) nv w2 := by
  refine ⟨?_, (h.be.trans (b1.mono h.be.size)).grown g (Nat.le_trans h.be.size b1.size) fun k e => (World.ownsRow.there h.row e).1⟩
  rw [List.length_append, List.length_singleton, show nodeCells (acc ++ [v]) = nodeCells acc ++ v.cells by simp [nodeCells]]
  exact hn
theorem NR.below {w : World} {acc : List Nd} {lv : Value} {wr w1 : World} (h : NR w acc lv wr) (b1 : Below wr.heap.size wr w1) : NR w acc lv w1 := ⟨World.ownsRow.keep h.row fun g hg => b1.block g (World.ownsRow.there h.row hg).2, h.be.trans (b1.mono h.be.size)⟩
theorem map_take_one {α β : Type} [Inhabited α] (f : α → β) (t : List α) (i : Nat) (hi : i < t.length) : (t.take (i + 1)).map f = (t.take i).map f ++ [f (t.getD i default)] := by
  rw [List.take_succ_eq_append_getElem hi, List.map_append, List.getD_eq_getElem?_getD, List.getElem?_eq_getElem hi]; rfl
def RcanP (t : List Nd) (w : World) (e : Ending) (w' : World) : Prop := ∃ lv, e = .returned lv ∧ w'.ownsRow w.heap.size 58 4 lv (canonN t).length (nodeCells (canonN t)) ∧ Below w.heap.size w w'
set_option maxHeartbeats 4000000 in
theorem rcanon_any (tv : Value) (t : List Nd) (w : World) (hns : NodesAt w tv t) (hl : t.length ≤ 1000000) : Calls Tryz.prog 21 #[tv] w (RcanP t w) := by
  obtain ⟨q, c, rfl⟩ : ∃ q c, tv = .slice q t.length c := by obtain ⟨_, q, c, e, _⟩ := hns; exact ⟨q, c, e⟩
  have VARS := Lib.hid (rvars_any _ t w hns hl)
  have NS := Lib.hid (fun W (b : Below w.heap.size w W) => hns.below b)
  have VL : Hid ((varsN t).length ≤ t.length) := Lib.hid (by
    have : ∀ (t : List Nd) (acc : List Int), (t.foldl vstep acc).length ≤ acc.length + t.length := by
      intro t
      induction t with
      | nil => intro acc; simp
      | cons n t ih =>
        intro acc
        have h1 := ih (vstep acc n)
        have h2 : (vstep acc n).length ≤ acc.length + 1 := by unfold vstep; split <;> simp
        rw [List.foldl_cons, List.length_cons]; omega
    have := this t []
    simpa [varsN] using this)
  obtain ⟨l, hlen⟩ : ∃ l, l = t.length := ⟨_, rfl⟩
  have HL := Lib.hid hlen
  rw [← hlen] at NS hl VARS VL ⊢
  clear hns hlen
  go_enter Tryz.func21, Tryz.ntmps21
  go_wp2_with fail
  refine VARS.out.mono ?_
  rintro e w1 ⟨vv, rfl, vrow, vb⟩
  have VROW := Lib.hid vrow
  have C0 : Hid (NR w [] (.slice (some ⟨w1.heap.size, 0, none⟩) 0 0) (w1.alloc (.cells #[] 58))) := Lib.hid ⟨World.ownsRow_made w1 #[] 0 vb.size (by unfold maxLen; omega) (by rfl), vb.trans (((Below.refl w1.heap.size w1).alloc (Nat.le_refl _) _).mono vb.size)⟩
  have B1 : Hid (Below w1.heap.size w1 (w1.alloc (.cells #[] 58))) := Lib.hid ((Below.refl w1.heap.size w1).alloc (Nat.le_refl _) _)
  clear vrow vb VARS
  go_wp2
  go_loopw [4, 5] (fun lv i wr => ∃ j : Nat, j ≤ l ∧ i = .int .i64 j ∧ Hid (NR w ((t.take j).map (canon1 (varsN t))) lv wr) ∧ Hid (Below w1.heap.size w1 wr) ∧ Hid (∀ g, lv.ownBlock = some g → w1.heap.size ≤ g)) (fun _ i _ => l - (intOf i).toNat)
  case atStart => exact ⟨0, Nat.zero_le _, rfl, C0, B1, Lib.hid fun g e => by simp [Value.ownBlock] at e; omega⟩
  case round =>
    obtain ⟨j, hj, rfl, hV, hB, VLOW⟩ := hrel
    clear C0 B1
    by_cases hlt : j < l
    · obtain ⟨n, hn⟩ : ∃ n, n = t.getD j default := ⟨_, rfl⟩
      obtain ⟨g1, q', c', e', g2, g3, g4⟩ := NS.out wr hV.out.be
      obtain ⟨b, o, rfl, gb, gc⟩ := g4 (by rw [← HL.out]; omega)
      simp only [Value.slice.injEq] at e'
      obtain ⟨rfl, hlx, rfl⟩ := e'
      obtain ⟨a0, a1, a2, a3⟩ := CellsIn.node gc j (by rw [← HL.out]; exact hlt)
      rw [← hn] at a0 a1 a2 a3
      have STEP := Lib.hid (map_take_one (canon1 (varsN t)) t j (by rw [← HL.out]; exact hlt))
      rw [← hn] at STEP
      by_cases hk : n.kind = 31
      · have t1 : (n.kind == 31) = true := by simpa using hk
        have PLH := Lib.hid (place_any vv (varsN t) n.num (wr.alloc (.cells #[.int .i64 n.kind, .string n.text, .int .i64 n.num, .int .i64 n.kids] 58)) (SliceAt.below (SliceAt.of_owns VROW.out) (hB.out.trans (((Below.refl wr.heap.size wr).alloc (Nat.le_refl _) _).mono hB.out.size))) (by have := VL.out; omega))
        rw [show canon1 (varsN t) n = { n with num := placeI (varsN t) n.num } by unfold canon1; rw [if_pos hk]] at STEP
        obtain ⟨pl, hpl⟩ : ∃ pl, pl = placeI (varsN t) n.num := ⟨_, rfl⟩
        rw [← hpl] at PLH STEP
        clear hpl
        obtain ⟨acc, hacc⟩ : ∃ acc, acc = (t.take j).map (canon1 (varsN t)) := ⟨_, rfl⟩
        rw [← hacc] at hV STEP
        obtain ⟨ql, cl, hql⟩ := row_form hV.out.row
        obtain ⟨k, hkl⟩ : ∃ k, k = acc.length := ⟨_, rfl⟩
        rw [← hkl] at hql
        subst hql
        have HKL := Lib.hid hkl
        have hkj : k = j := by rw [hkl, hacc, List.length_map, List.length_take, ← HL.out]; omega
        have AL2 : Below wr.heap.size wr ((wr.alloc (.cells #[.int .i64 n.kind, .string n.text, .int .i64 pl, .int .i64 n.kids] 58)).alloc (.cells #[.int .i64 n.kind, .string n.text, .int .i64 pl, .int .i64 n.kids] 58)) := below_two wr _ _
        have ROWA := Lib.hid (show ((wr.alloc (.cells #[.int .i64 n.kind, .string n.text, .int .i64 pl, .int .i64 n.kids] 58)).alloc (.cells #[.int .i64 n.kind, .string n.text, .int .i64 pl, .int .i64 n.kids] 58)).ownsRow w.heap.size 58 4 (.slice ql k cl) k (nodeCells acc) from by
          have hrow := hV.out.row
          rw [← hkl] at hrow
          exact World.ownsRow.keep hrow fun g hg => AL2.block g (World.ownsRow.there hrow hg).2)
        have ALH := Lib.hid AL2
        have HLC : Hid (CellsIn ((wr.alloc (.cells #[.int .i64 n.kind, .string n.text, .int .i64 pl, .int .i64 n.kids] 58)).alloc (.cells #[.int .i64 n.kind, .string n.text, .int .i64 pl, .int .i64 n.kids] 58)) (wr.heap.size + 1) 0 [.int .i64 n.kind, .string n.text, .int .i64 pl, .int .i64 n.kids]) := Lib.hid (by
          have := lit_cells (wr.alloc (.cells #[.int .i64 n.kind, .string n.text, .int .i64 pl, .int .i64 n.kids] 58)) #[.int .i64 n.kind, .string n.text, .int .i64 pl, .int .i64 n.kids] 58
          rw [show (wr.alloc (.cells #[.int .i64 n.kind, .string n.text, .int .i64 pl, .int .i64 n.kids] 58)).heap.size = wr.heap.size + 1 by simp] at this
          exact this)
        have HCELL : Hid (Nd.cells { n with num := pl } = [.int .i64 n.kind, .string n.text, .int .i64 pl, .int .i64 n.kids]) := Lib.hid rfl
        obtain ⟨j0, j1, j2, j3, j4⟩ := info44
        have HJ := Lib.hid (And.intro j1 (And.intro j2 (And.intro j3 j4)))
        have HMX := Lib.hid (show k + 1 ≤ maxLen ∧ (k + 1) * 40 ≤ 140737488355328 ∧ w.heap.size ≤ ((wr.alloc (.cells #[.int .i64 n.kind, .string n.text, .int .i64 pl, .int .i64 n.kids] 58)).alloc (.cells #[.int .i64 n.kind, .string n.text, .int .i64 pl, .int .i64 n.kids] 58)).heap.size from ⟨by unfold maxLen; omega, by omega, by have := hV.out.be.size; simp; omega⟩)
        have HB2 := Lib.hid (hB.out.trans (AL2.mono hB.out.size))
        clear hn hlx g2 g3 g4 gb gc hk hkl hkj j1 j2 j3 j4 AL2 hacc hB g1
        go_wp2_with fail
        refine PLH.out.mono ?_
        rintro e w5 ⟨rfl, rfl⟩
        clear PLH
        go_wp2_with (at_builtin; refine wpList_append_any _ rfl _ _ 22 rfl w.heap.size 58 j0 zeroNode 4 40 Tryz.underlying22 HJ.out.1 HJ.out.2.1 HJ.out.2.2.1 HJ.out.2.2.2 rfl (by decide) (.slice ql k cl) k (nodeCells acc) rfl ROWA.out (some ⟨wr.heap.size + 1, 0, none⟩) 1 1 [.int .i64 n.kind, .string n.text, .int .i64 pl, .int .i64 n.kids] rfl rfl (fun _ => ⟨_, rfl, CellsIn.at HLC.out⟩) (by intro u hu; simp at hu; rcases hu with rfl | rfl | rfl | rfl <;> rfl) HMX.out.1 HMX.out.2.1 HMX.out.2.2 ?_; intro p' cap' w8 hown hgrow hblk; have RN := Lib.hid hown; have GN := Lib.hid hgrow; have BK := Lib.hid hblk; clear hown hgrow hblk)
        go_roundw
        case rel =>
          refine ⟨j + 1, by omega, by go_num, ?_, ?_, ?_⟩
          · rw [STEP.out]
            exact Lib.hid (hV.out.more (v := { n with num := pl }) ALH.out GN.out (by rw [← HKL.out, HCELL.out]; exact RN.out))
          · exact Lib.hid (HB2.out.grown GN.out (by have := hV.out.be.size; have := ALH.out.size; have := HB2.out.size; simp at *; omega) fun g e => VLOW.out g e)
          · exact Lib.hid fun g e => by
              rcases BK.out with h | h
              · exact VLOW.out g (h.symm.trans e)
              · rw [h] at e
                simp only [Option.some.injEq] at e
                have := HB2.out.size
                omega
        case measure => simp [intOf]; omega
      · have t1 : (n.kind == 31) = false := by simpa using hk
        rw [show canon1 (varsN t) n = n by unfold canon1; rw [if_neg hk]] at STEP
        obtain ⟨acc, hacc⟩ : ∃ acc, acc = (t.take j).map (canon1 (varsN t)) := ⟨_, rfl⟩
        rw [← hacc] at hV STEP
        obtain ⟨ql, cl, hql⟩ := row_form hV.out.row
        obtain ⟨k, hkl⟩ : ∃ k, k = acc.length := ⟨_, rfl⟩
        rw [← hkl] at hql
        subst hql
        have HKL := Lib.hid hkl
        have hkj : k = j := by rw [hkl, hacc, List.length_map, List.length_take, ← HL.out]; omega
        have AL2 : Below wr.heap.size wr ((wr.alloc (.cells #[.int .i64 n.kind, .string n.text, .int .i64 n.num, .int .i64 n.kids] 58)).alloc (.cells #[.int .i64 n.kind, .string n.text, .int .i64 n.num, .int .i64 n.kids] 58)) := below_two wr _ _
        have ROWA := Lib.hid (show ((wr.alloc (.cells #[.int .i64 n.kind, .string n.text, .int .i64 n.num, .int .i64 n.kids] 58)).alloc (.cells #[.int .i64 n.kind, .string n.text, .int .i64 n.num, .int .i64 n.kids] 58)).ownsRow w.heap.size 58 4 (.slice ql k cl) k (nodeCells acc) from by
          have hrow := hV.out.row
          rw [← hkl] at hrow
          exact World.ownsRow.keep hrow fun g hg => AL2.block g (World.ownsRow.there hrow hg).2)
        have ALH := Lib.hid AL2
        have HLC : Hid (CellsIn ((wr.alloc (.cells #[.int .i64 n.kind, .string n.text, .int .i64 n.num, .int .i64 n.kids] 58)).alloc (.cells #[.int .i64 n.kind, .string n.text, .int .i64 n.num, .int .i64 n.kids] 58)) (wr.heap.size + 1) 0 [.int .i64 n.kind, .string n.text, .int .i64 n.num, .int .i64 n.kids]) := Lib.hid (by
          have := lit_cells (wr.alloc (.cells #[.int .i64 n.kind, .string n.text, .int .i64 n.num, .int .i64 n.kids] 58)) #[.int .i64 n.kind, .string n.text, .int .i64 n.num, .int .i64 n.kids] 58
          rw [show (wr.alloc (.cells #[.int .i64 n.kind, .string n.text, .int .i64 n.num, .int .i64 n.kids] 58)).heap.size = wr.heap.size + 1 by simp] at this
          exact this)
        have HCELL : Hid (Nd.cells n = [.int .i64 n.kind, .string n.text, .int .i64 n.num, .int .i64 n.kids]) := Lib.hid rfl
        obtain ⟨j0, j1, j2, j3, j4⟩ := info44
        have HJ := Lib.hid (And.intro j1 (And.intro j2 (And.intro j3 j4)))
        have HMX := Lib.hid (show k + 1 ≤ maxLen ∧ (k + 1) * 40 ≤ 140737488355328 ∧ w.heap.size ≤ ((wr.alloc (.cells #[.int .i64 n.kind, .string n.text, .int .i64 n.num, .int .i64 n.kids] 58)).alloc (.cells #[.int .i64 n.kind, .string n.text, .int .i64 n.num, .int .i64 n.kids] 58)).heap.size from ⟨by unfold maxLen; omega, by omega, by have := hV.out.be.size; simp; omega⟩)
        have HB2 := Lib.hid (hB.out.trans (AL2.mono hB.out.size))
        clear hn hlx g2 g3 g4 gb gc hk hkl hkj j1 j2 j3 j4 AL2 hacc hB g1
        go_wp2_with (at_builtin; refine wpList_append_any _ rfl _ _ 22 rfl w.heap.size 58 j0 zeroNode 4 40 Tryz.underlying22 HJ.out.1 HJ.out.2.1 HJ.out.2.2.1 HJ.out.2.2.2 rfl (by decide) (.slice ql k cl) k (nodeCells acc) rfl ROWA.out (some ⟨wr.heap.size + 1, 0, none⟩) 1 1 [.int .i64 n.kind, .string n.text, .int .i64 n.num, .int .i64 n.kids] rfl rfl (fun _ => ⟨_, rfl, CellsIn.at HLC.out⟩) (by intro u hu; simp at hu; rcases hu with rfl | rfl | rfl | rfl <;> rfl) HMX.out.1 HMX.out.2.1 HMX.out.2.2 ?_; intro p' cap' w8 hown hgrow hblk; have RN := Lib.hid hown; have GN := Lib.hid hgrow; have BK := Lib.hid hblk; clear hown hgrow hblk)
        go_roundw
        case rel =>
          refine ⟨j + 1, by omega, by go_num, ?_, ?_, ?_⟩
          · rw [STEP.out]
            exact Lib.hid (hV.out.more (v := n) ALH.out GN.out (by rw [← HKL.out, HCELL.out]; exact RN.out))
          · exact Lib.hid (HB2.out.grown GN.out (by have := hV.out.be.size; have := ALH.out.size; have := HB2.out.size; simp at *; omega) fun g e => VLOW.out g e)
          · exact Lib.hid fun g e => by
              rcases BK.out with h | h
              · exact VLOW.out g (h.symm.trans e)
              · rw [h] at e
                simp only [Option.some.injEq] at e
                have := HB2.out.size
                omega
        case measure => simp [intOf]; omega
    · obtain rfl : j = l := by omega
      have et : t.take j = t := List.take_of_length_le (by rw [← HL.out]; omega)
      rw [et] at hV
      have E : Hid (RcanP t w (.returned u4) wr) := ⟨u4, rfl, hV.out.row, hV.out.be⟩
      clear hV hlt et hB
      go_wp2
      go_ret
      exact E.out
end Go.Proofs.YtncifeeinogcnaaGreatDoor
