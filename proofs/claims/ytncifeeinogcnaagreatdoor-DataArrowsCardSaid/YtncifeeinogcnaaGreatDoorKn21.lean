/- Texts of this seat, one behind the other: Nex, DaL, ApA. -/
import Derived.Test.YtncifeeinogcnaaGreatDoorKn03
import Derived.Test.YtncifeeinogcnaaGreatDoorKn15
import Derived.Test.YtncifeeinogcnaaGreatDoorKn20
import Derived.RangeFuncWrites
import Derived.RangeFuncBox
import Derived.RangeFuncLeaves
import Derived.RangeFuncNested
import Derived.RangeFuncBound
import Derived.RangeFuncCalls
import Derived.Shelf.Abstract
import Derived.WalkKit
import Derived.OwnWalkIn
import Derived.TacticsInMore
import Derived.LoopNIn
import Derived.LoopIn
import Derived.Maps.OwnIn
import Derived.Test.YtncifeeinogcnaaGreatDoorKn18
/- A new list of nodes is one's own. -/
set_option maxRecDepth 100000
namespace Go.Proofs.YtncifeeinogcnaaGreatDoor
open Go.RowKit Go.Proofs.TreeMath
def NOwn (W : World) (ns : List Nd) (e : Ending) (w' : World) : Prop := ∃ v, e = .returned v ∧ w'.ownsRow W.heap.size 58 4 v ns.length (nodeCells ns) ∧ Below W.heap.size W w'
set_option maxHeartbeats 2000000 in
theorem join_own (b off c : Nat) (Ls : List (List Nd)) (w : World) (hb : b < w.heap.size) (hL : Hid (Lists w b off Ls)) (hn : Ls.flatten.length ≤ 1000000) (hc : Ls.length ≤ 5000) :
    Calls Tryz.prog 122 #[.slice (some ⟨b, off, none⟩) Ls.length c] w (NOwn w Ls.flatten) := by
  obtain ⟨i0, hi, hz0, hz1, hz2⟩ := infoNode
  have HI := Lib.hid (And.intro hi (And.intro hz0 (And.intro hz1 hz2)))
  clear hi hz0 hz1 hz2
  obtain ⟨N, hN⟩ : ∃ N, N = Ls.flatten.length := ⟨_, rfl⟩
  have hn' : N ≤ 1000000 := by omega
  have HN := Lib.hid hN
  clear hN hn
  go_enter Tryz.func122, Tryz.ntmps122
  go_wp2
  go_loop [3, 12] (fun s i => ∃ k S : Nat, k ≤ Ls.length ∧ i = .int .i64 k ∧ s = .int .i64 S ∧ S = sumTo Ls k) (fun _ i => Ls.length - (intOf i).toNat)
  case atStart => exact ⟨0, 0, Nat.zero_le _, rfl, rfl, rfl⟩
  case round =>
    obtain ⟨k, S, hk, rfl, rfl, hS⟩ := hrel
    by_cases hlt : k < Ls.length
    · obtain ⟨p, n, cp, hv, hvl, _⟩ := hL.out.one k hlt
      have hs1 := sumTo_succ Ls k hlt
      have hs2 : S + n ≤ N := by have := sumTo_le Ls (k + 1); rw [HN.out]; omega
      have HS : Hid (S + n = sumTo Ls (k + 1)) := Lib.hid (by omega)
      clear hs1 hS hvl
      go_wp2
      go_round
      case rel => exact ⟨k + 1, S + n, by omega, by go_num, by go_num, HS.out⟩
      case measure => simp [intOf]; omega
    · obtain rfl : S = N := by rw [hS, HN.out, show k = Ls.length by omega, sumTo_all]
      clear hS
      go_wp2_with ((at_make; refine wpList_make_full _ rfl _ _ 22 rfl w.heap.size 58 i0 zeroNode 4 Tryz.underlying22 HI.out.1 HI.out.2.1 HI.out.2.2.1 .i64 .i64 _ _ S rfl rfl rfl rfl (by rw [HI.out.2.2.2]; omega) (by unfold maxLen; omega) (Nat.le_refl _) ?_; intro w1 hown hgrow; have HO := Lib.hid hown; have HG := Lib.hid hgrow; clear hown hgrow))
      obtain ⟨hol, hor⟩ := HO.out
      obtain ⟨cur, hcur, hcl⟩ : ∃ cur : List Value, w1.heap[w.heap.size]? = some (.cells cur.toArray 58 (0, 0)) ∧ cur.length = S * 4 := by
        rcases hor with ⟨h, _⟩ | ⟨g, cap, cur, h1, _, h3, _, _, h6, _⟩
        · simp at h
        · simp at h1
          obtain ⟨rfl, rfl⟩ := h1
          exact ⟨cur.toList, by simpa using h3, by simpa using h6⟩
      have hB1 : Below w.heap.size w w1 := (Below.refl _ _).grown HG.out (Nat.le_refl _) (fun k hk => by simp at hk)
      have HC := Lib.hid hcur
      have HL2 := Lib.hid hcl
      clear hol hor hcur hcl
      go_loopw [7, 25] (fun s i wr => ∃ k A : Nat, ∃ rest : List Value, k ≤ Ls.length ∧ i = .int .i64 k ∧ s = .int .i64 A ∧ A = sumTo Ls k ∧ Below w.heap.size w wr ∧ rest.length = S * 4 - A * 4 ∧ wr.heap[w.heap.size]? = some (.cells (nodeCells (Ls.take k).flatten ++ rest).toArray 58 (0, 0))) (fun _ i _ => Ls.length - (intOf i).toNat)
      case atStart => exact ⟨0, 0, cur, Nat.zero_le _, rfl, rfl, rfl, hB1, by rw [HL2.out]; omega, by simpa [nodeCells] using HC.out⟩
      case round =>
        obtain ⟨k, A, rest, hk, rfl, rfl, hA, hbel, hrest, hblk⟩ := hrel
        have HB := Lib.hid hblk
        have HR := Lib.hid hrest
        clear hblk hrest
        by_cases hlt : k < Ls.length
        · obtain ⟨p, n, cp, hv, hvl, hnode⟩ := (hL.out.below hbel hb).one k hlt
          have hs1 := sumTo_succ Ls k hlt
          have hs2 : A + n ≤ S := by have := sumTo_le Ls (k + 1); rw [HN.out]; omega
          have HS : Hid (A + n = sumTo Ls (k + 1)) := Lib.hid (by omega)
          have HA := Lib.hid hA
          have HV := Lib.hid hvl
          have HNo := Lib.hid hnode
          obtain ⟨X, hX⟩ : ∃ X, X = nodeCells (Ls.take k).flatten := ⟨_, rfl⟩
          rw [← hX] at HB
          have hXl : X.length = A * 4 := by rw [hX, length_nodeCells, hA]; rfl
          have HX := Lib.hid hX
          have HXl := Lib.hid hXl
          obtain ⟨Y, hY⟩ : ∃ Y, Y = nodeCells (Ls.getD k []) := ⟨_, rfl⟩
          have hYl : Y.length = n * 4 := by rw [hY, length_nodeCells, hvl]
          have HY := Lib.hid hY
          have HYl := Lib.hid hYl
          have hsrc : 0 < n → ∃ ad, p = some ad ∧ ∀ j v, Y[j]? = some v → wr.cell? (ad.add j) = some v := by
            intro h0
            obtain ⟨_, p2, c2, h1, _, _, h4⟩ := hnode
            simp only [Value.slice.injEq] at h1
            obtain ⟨rfl, h2, _⟩ := h1
            obtain ⟨bb, oo, rfl, _, hc⟩ := h4 (by omega)
            exact ⟨_, rfl, by rw [hY]; exact hc.at⟩
          have HSrc := Lib.hid hsrc
          clear hs1 hA hvl hnode hX hXl hY hYl hsrc
          have hAS : A = S ∨ A < S := by omega
          rcases hAS with rfl | hAS
          · go_wp2_with (((with_reducible refine wpList_copy_many rfl (.tmp 32) (.tmp 33) 22 22 rfl 58 4 n Tryz.underlying22 sizeNode (some ⟨w.heap.size, 0, none⟩) p 0 0 n cp ?a7 ?a8 ?c1 w.heap.size (A * 4) (X ++ rest) 58 ?HB Y ?c0 ?c2 ?c3 ?c4 w.heap.size w ?c6 ?c7 ?c5); (case a7 => rfl); (case a8 => rfl); (case c1 => omega); (case HB => exact HB.out); (case c0 => exact HYl.out); (case c2 => intro h; omega); (case c3 => rw [HYl.out, List.length_append, HXl.out, HR.out]; omega); (case c4 => rw [HY.out]; exact nodeCells_one _); (case c6 => exact hbel); (case c7 => exact Nat.le_refl _); intro w3 H3 hbel3))
            go_roundw
            case rel => exact ⟨k + 1, A + n, rest.drop Y.length, by omega, by go_num, by go_num, HS.out, hbel3, by rw [List.length_drop, HR.out, HYl.out]; omega, by
              have h3 := H3.out
              rw [splice_row X rest Y (A * 4) HXl.out.symm, HX.out, HY.out, ← nodeCells_append, ← take_flat Ls k hlt] at h3
              rw [HY.out]
              exact h3⟩
            case measure => simp [intOf]; omega
          · go_wp2_with (((with_reducible refine wpList_copy_many rfl (.tmp 32) (.tmp 33) 22 22 rfl 58 4 n Tryz.underlying22 sizeNode (some ⟨w.heap.size, A * 4, none⟩) p (S - A) (S - A) n cp ?za7 ?za8 ?zc1 w.heap.size (A * 4) (X ++ rest) 58 ?zHB Y ?zc0 ?zc2 ?zc3 ?zc4 w.heap.size w ?zc6 ?zc7 ?zc5); (case za7 => rfl); (case za8 => rfl); (case zc1 => omega); (case zHB => exact HB.out); (case zc0 => exact HYl.out); (case zc2 => intro h9; exact ⟨rfl, HSrc.out h9⟩); (case zc3 => rw [HYl.out, List.length_append, HXl.out, HR.out]; omega); (case zc4 => rw [HY.out]; exact nodeCells_one _); (case zc6 => exact hbel); (case zc7 => exact Nat.le_refl _); intro w3 H3 hbel3))
            go_roundw
            case rel => exact ⟨k + 1, A + n, rest.drop Y.length, by omega, by go_num, by go_num, HS.out, hbel3, by rw [List.length_drop, HR.out, HYl.out]; omega, by
              have h3 := H3.out
              rw [splice_row X rest Y (A * 4) HXl.out.symm, HX.out, HY.out, ← nodeCells_append, ← take_flat Ls k hlt] at h3
              rw [HY.out]
              exact h3⟩
            case measure => simp [intOf]; omega
        · obtain rfl : k = Ls.length := by omega
          have hAS : A = S := by rw [hA, sumTo_all, HN.out]
          have hr0 : rest = [] := List.eq_nil_of_length_eq_zero (by rw [HR.out]; omega)
          have HA := Lib.hid hAS
          have H0 := Lib.hid hr0
          clear hA hAS hr0
          go_wp2
          go_ret
          refine ⟨.slice (some ⟨w.heap.size, 0, none⟩) S S, rfl, ?_, hbel⟩
          have hb4 := HB.out
          rw [H0.out, List.append_nil, List.take_length] at hb4
          have hln := length_nodeCells Ls.flatten
          rw [← HN.out] at hln
          rw [← HN.out]
          exact ⟨hln, .inr ⟨w.heap.size, S, _, rfl, Nat.le_refl _, hb4, Nat.le_refl _, by unfold maxLen; omega, by simp [hln], by rw [← hln]; simp⟩⟩
set_option maxHeartbeats 1000000 in
theorem make_own (k m s : Int) (t : ByteArray) (p : Option Addr) (c : Nat) (w : World) :
    Calls Tryz.prog 95 #[.agg #[.int .i64 k, .string t, .int .i64 m, .int .i64 s], .slice p 0 c] w (NOwn w [⟨k, t, m, 0⟩]) := by
  rcases p with _ | a <;>
  · go_enter Tryz.func95, Tryz.ntmps95
    go_wp2_with fail
    refine (join_own (w.heap.size + 1 + 1) 0 1 [[⟨k, t, m, 0⟩]] _ (by simp) (by
      have h := lists_one ((w.alloc (.cells #[.int .i64 k, .string t, .int .i64 m, .int .i64 0] 58)).alloc (.cells #[.int .i64 k, .string t, .int .i64 m, .int .i64 0] 58)) (.slice (some ⟨w.heap.size + 1, 0, none⟩) 1 1) 22 [⟨k, t, m, 0⟩] (by
        have := node_new (w.alloc (.cells #[.int .i64 k, .string t, .int .i64 m, .int .i64 0] 58)) ⟨k, t, m, 0⟩
        simpa using this)
      show Lists _ _ _ _
      simpa using h) (by simp) (by simp)).mono ?_
    rintro e w1 ⟨v', rfl, hv, hb1⟩
    have HV := Lib.hid hv
    clear hv
    go_wp2_with fail
    go_ret
    refine ⟨_, rfl, ?_, ((((Below.refl _ _).alloc (Nat.le_refl _) _).alloc (by simp) _).alloc (by simp; omega) _).trans (hb1.mono (by simp; omega))⟩
    have h9 := HV.out
    simp only [List.flatten_cons, List.flatten_nil, List.append_nil] at h9
    exact World.ownsRow.base h9 (by simp; omega)
end Go.Proofs.YtncifeeinogcnaaGreatDoor
/- Arrow. -/
set_option maxRecDepth 100000
namespace Go.Proofs.YtncifeeinogcnaaGreatDoor
open Go.Shelf Go.RowKit Go.Lib Go.Sort Go.Maps Go.Proofs.TreeMath Go.Proofs.LexMath

/-- The head of a function's type. -/
def arrH : Nd := ⟨32, sArrow, 0, 2⟩
def arrL (Ls : List (List Nd)) : List Nd := Ls.flatMap fun L => arrH :: L
/-- The type of a function. -/
def arrN (Ls : List (List Nd)) (tl : List Nd) : List Nd := arrL Ls ++ tl
theorem arrL_take (Ls : List (List Nd)) (i : Nat) (hi : i < Ls.length) : arrL (Ls.take (i + 1)) = (arrL (Ls.take i) ++ [arrH]) ++ Ls.getD i [] := by
  unfold arrL
  rw [List.take_succ_eq_append_getElem hi, List.flatMap_append, List.getD_eq_getElem?_getD, List.getElem?_eq_getElem hi]
  simp
theorem arrL_le (Ls : List (List Nd)) (i : Nat) : (arrL (Ls.take i)).length ≤ (arrL Ls).length := by
  have : arrL Ls = arrL (Ls.take i) ++ arrL (Ls.drop i) := by unfold arrL; rw [← List.flatMap_append, List.take_append_drop]
  rw [this, List.length_append]; omega
theorem arrL_len (Ls : List (List Nd)) : Ls.length ≤ (arrL Ls).length := by
  unfold arrL
  induction Ls with
  | nil => simp
  | cons L Ls ih => rw [List.flatMap_cons, List.length_append, List.length_cons, List.length_cons]; omega
theorem nodes_form' {w : World} {v : Value} {l : List Nd} (h : NodesAt w v l) : ∃ q c, v = .slice q l.length c := by obtain ⟨_, q, c, e, _⟩ := h; exact ⟨q, c, e⟩
theorem src_of {w : World} {v : Value} {L : List Nd} (h : NodesAt w v L) : ∃ q c, v = .slice q L.length c ∧ (L.length ≠ 0 → ∃ ad, q = some ad ∧ ∀ j u, (nodeCells L)[j]? = some u → w.cell? (ad.add j) = some u) := by
  obtain ⟨_, q, c, e, _, _, hp⟩ := h
  refine ⟨q, c, e, fun hne => ?_⟩
  obtain ⟨b, off, rfl, _, hc⟩ := hp hne
  exact ⟨_, rfl, hc.at⟩
theorem lit_at (w : World) (cs : Array Value) (t : TypeId) : CellsIn (w.alloc (.cells cs t)) w.heap.size 0 cs.toList := fun j u hj => by
  have h := heap_alloc_new w (.cells cs t)
  rw [Nat.zero_add]
  have := Lib.cell_of_heap h j
  rw [this]
  simpa using hj
set_option maxHeartbeats 1000000 in
theorem arrow_any (lv tv : Value) (Ls : List (List Nd)) (tl : List Nd) (w : World) (h : ListsAt w lv Ls) (ht : NodesAt w tv tl) (hn : (arrN Ls tl).length ≤ 1000000) : Calls Tryz.prog 32 #[lv, tv] w (NOwn w (arrN Ls tl)) := by
  obtain ⟨i0, hi, hz0, hz1, hz2⟩ := infoNode
  have HI := Lib.hid (And.intro hi (And.intro hz0 (And.intro hz1 hz2)))
  clear hi hz0 hz1 hz2
  obtain ⟨vs, ⟨hvl, lq, lc, rfl, _, _, hp⟩, hvs⟩ := h
  have HP := Lib.hid hp
  have HVS := Lib.hid hvs
  have HT := Lib.hid ht
  obtain ⟨n, hnn⟩ : ∃ n, n = Ls.length := ⟨_, rfl⟩
  have HN := Lib.hid hnn
  have HVL := Lib.hid hvl
  have HL : Hid ((arrN Ls tl).length = (arrL Ls).length + tl.length) := Lib.hid (by unfold arrN; rw [List.length_append])
  have E : Hid (∀ v w', w'.ownsRow w.heap.size 58 4 v (arrN Ls tl).length (nodeCells (arrN Ls tl)) → Below w.heap.size w w' → NOwn w (arrN Ls tl) (.returned v) w') := Lib.hid fun v w' h1 h2 => ⟨v, rfl, h1, h2⟩
  obtain ⟨tq, tc, htv⟩ := nodes_form' ht
  subst htv
  rw [← hnn]
  generalize NOwn w (arrN Ls tl) = Z at E ⊢
  have hnl : n ≤ 1000000 := by
    have h1 := arrL_len Ls
    have := HL.out
    omega
  have HM := Lib.hid hn
  clear hp hvs ht hvl hnn hn
  go_enter Tryz.func32, Tryz.ntmps32
  go_wp2
  go_loopw [5, 10] (fun s5 s10 wr => ∃ (i k : Nat) (q : Option Addr) (c : Nat), i ≤ n ∧ s10 = .int .i64 i ∧ s5 = .slice q k c ∧ Hid (k = (arrL (Ls.take i)).length ∧ wr.ownsRow w.heap.size 58 4 (.slice q k c) k (nodeCells (arrL (Ls.take i))) ∧ Below w.heap.size w wr)) (fun _ s10 _ => n - (intOf s10).toNat)
  case atStart => exact ⟨0, 0, none, 0, Nat.zero_le _, rfl, rfl, Lib.hid ⟨rfl, World.ownsRow_nil _ _ _ _, Below.refl _ _⟩⟩
  case round =>
    obtain ⟨wo, hwo⟩ : ∃ wo : World, wo = wr := ⟨_, rfl⟩
    subst hwo
    obtain ⟨i, k, q, c, hi, rfl, rfl, hS⟩ := hrel
    by_cases hlt : i < n
    · have k2 : ((i : Int) < (n : Int)) := by omega
      obtain ⟨b, off, rfl, hb, hc⟩ := HP.out (by rw [← HN.out]; omega)
      have c0 := (hc.kept ((hS.out.2.2).block b hb)) i (vs.getD i default) (by
        rw [List.getD_eq_getElem?_getD, List.getElem?_eq_getElem (by rw [HVL.out, Nat.mul_one, ← HN.out]; exact hlt)]; rfl)
      have NV := Lib.hid (HVS.out i (by rw [← HN.out]; exact hlt))
      have AT := Lib.hid (arrL_take Ls i (by rw [← HN.out]; exact hlt))
      have AL := Lib.hid (arrL_le Ls (i + 1))
      obtain ⟨aq, ac, eav⟩ := nodes_form' NV.out
      obtain ⟨m, hm⟩ : ∃ m, m = (Ls.getD i []).length := ⟨_, rfl⟩
      rw [eav, ← hm] at c0
      have HMM := Lib.hid hm
      have HEA := Lib.hid eav
      have K1 : Hid (k + 1 + m ≤ 1000000) := Lib.hid (by
        have h1 := AL.out
        rw [AT.out, List.length_append, List.length_append, List.length_singleton, ← hS.out.1, ← hm] at h1
        have := HL.out
        have := HM.out
        omega)
      clear hc hb eav hm
      have BK := Lib.hid (box_keep (W := wo) (.cells #[.int .i64 32, .string ⟨#[45, 62]⟩, .int .i64 0, .int .i64 2] 58))
      have R1 : Hid ((wo.alloc (.cells #[.int .i64 32, .string ⟨#[45, 62]⟩, .int .i64 0, .int .i64 2] 58)).ownsRow w.heap.size 58 4 (.slice q k c) k (nodeCells (arrL (Ls.take i)))) := Lib.hid (World.ownsRow.keep hS.out.2.1 fun g hg => BK.out.block g (World.ownsRow.there hS.out.2.1 hg).2)
      have LC := Lib.hid (CellsIn.at (lit_at wo #[.int .i64 32, .string ⟨#[45, 62]⟩, .int .i64 0, .int .i64 2] 58))
      have MX := Lib.hid (show k + 1 ≤ maxLen ∧ (k + 1) * 40 ≤ 140737488355328 ∧ w.heap.size ≤ (wo.alloc (.cells #[.int .i64 32, .string ⟨#[45, 62]⟩, .int .i64 0, .int .i64 2] 58)).heap.size ∧ k + 1 + m ≤ maxLen ∧ (k + 1 + m) * 40 ≤ 140737488355328 from ⟨by unfold maxLen; have := K1.out; omega, by have := K1.out; omega, Nat.le_trans hS.out.2.2.size BK.out.size, by unfold maxLen; have := K1.out; omega, by have := K1.out; omega⟩)
      have SR : Hid (∀ W, Below w.heap.size w W → m ≠ 0 → ∃ ad, aq = some ad ∧ ∀ j u, (nodeCells (Ls.getD i []))[j]? = some u → W.cell? (ad.add j) = some u) := Lib.hid fun W hW h0 => by
        obtain ⟨q', c', e', h'⟩ := src_of (NV.out.below hW)
        rw [HEA.out] at e'
        simp only [Value.slice.injEq] at e'
        rw [e'.1]
        exact h' (by rw [← HMM.out]; exact h0)
      have ML : Hid ((nodeCells (Ls.getD i [])).length = m * 4) := Lib.hid (by rw [length_nodeCells, ← HMM.out])
      go_wp2_with ((at_builtin; first | (refine wpList_append_any _ rfl _ _ 22 rfl w.heap.size 58 i0 zeroNode 4 40 Tryz.underlying22 HI.out.1 HI.out.2.1 HI.out.2.2.1 HI.out.2.2.2 rfl (by decide) (.slice q k c) k (nodeCells (arrL (Ls.take i))) rfl R1.out (some ⟨wo.heap.size, 0, none⟩) 1 1 [.int .i64 32, .string ⟨#[45, 62]⟩, .int .i64 0, .int .i64 2] rfl rfl (fun _ => ⟨_, rfl, LC.out⟩) (by intro u hu; simp at hu; rcases hu with rfl | rfl | rfl | rfl <;> rfl) MX.out.1 MX.out.2.1 MX.out.2.2.1 ?_; intro p' cap' w3 hown hgrow hblk; have RN := Lib.hid hown; have B3 := Lib.hid (((hS.out.2.2).trans (BK.out.mono hS.out.2.2.size)).grown hgrow MX.out.2.2.1 fun g e => (World.ownsRow.there hS.out.2.1 e).1); clear hown hgrow hblk) | (refine wpList_append_any _ rfl _ _ 22 rfl w.heap.size 58 i0 zeroNode 4 40 Tryz.underlying22 HI.out.1 HI.out.2.1 HI.out.2.2.1 HI.out.2.2.2 rfl (by decide) (.slice p' (k + 1) cap') (k + 1) (nodeCells (arrL (Ls.take i)) ++ [.int .i64 32, .string ⟨#[45, 62]⟩, .int .i64 0, .int .i64 2]) rfl RN.out aq m ac (nodeCells (Ls.getD i [])) rfl ML.out (SR.out _ B3.out) (nodeCells_one _) MX.out.2.2.2.1 MX.out.2.2.2.2 B3.out.size ?_; intro p2 cap2 w5 hown hgrow hblk; have RN2 := Lib.hid hown; have B5 := Lib.hid (B3.out.grown hgrow B3.out.size fun g e => (World.ownsRow.there RN.out e).1); clear hown hgrow hblk)))
      go_roundw
      case rel =>
        refine ⟨i + 1, k + 1 + m, p2, cap2, hlt, by go_num, rfl, Lib.hid ⟨?_, ?_, B5.out⟩⟩
        · rw [AT.out, List.length_append, List.length_append, List.length_singleton, ← hS.out.1, ← HMM.out]
        · rw [AT.out, nodeCells_append, nodeCells_append]
          exact RN2.out
      case measure => simp [intOf]; omega
    · obtain rfl : i = n := by omega
      have ET : Hid (Ls.take i = Ls) := Lib.hid (List.take_of_length_le (by rw [← HN.out]; exact Nat.le_refl _))
      have R1 : Hid (wo.ownsRow w.heap.size 58 4 (.slice q k c) k (nodeCells (arrL Ls))) := Lib.hid (by have := hS.out.2.1; rw [ET.out] at this; exact this)
      have HK : Hid (k = (arrL Ls).length) := Lib.hid (by have := hS.out.1; rw [ET.out] at this; exact this)
      have BB := Lib.hid hS.out.2.2
      obtain ⟨m, hm⟩ : ∃ m, m = tl.length := ⟨_, rfl⟩
      have HMM := Lib.hid hm
      rw [← hm]
      have SR : Hid (m ≠ 0 → ∃ ad, tq = some ad ∧ ∀ j u, (nodeCells tl)[j]? = some u → wo.cell? (ad.add j) = some u) := Lib.hid fun h0 => by
        obtain ⟨q', c', e', h'⟩ := src_of (HT.out.below BB.out)
        simp only [Value.slice.injEq] at e'
        rw [e'.1]
        exact h' (by rw [← HMM.out]; exact h0)
      have MX := Lib.hid (show k + m ≤ maxLen ∧ (k + m) * 40 ≤ 140737488355328 ∧ (nodeCells tl).length = m * 4 from by
        have h1 := HL.out
        have h2 := HM.out
        rw [← HK.out, ← hm] at h1
        refine ⟨by unfold maxLen; omega, by omega, by rw [length_nodeCells, ← hm]⟩)
      clear hS hm
      go_wp2_with ((at_builtin; refine wpList_append_any _ rfl _ _ 22 rfl w.heap.size 58 i0 zeroNode 4 40 Tryz.underlying22 HI.out.1 HI.out.2.1 HI.out.2.2.1 HI.out.2.2.2 rfl (by decide) (.slice q k c) k (nodeCells (arrL Ls)) rfl R1.out tq m tc (nodeCells tl) rfl MX.out.2.2 SR.out (nodeCells_one _) MX.out.1 MX.out.2.1 BB.out.size ?_; intro p2 cap2 w5 hown hgrow hblk; have RN2 := Lib.hid hown; have B5 := Lib.hid (BB.out.grown hgrow BB.out.size fun g e => (World.ownsRow.there R1.out e).1); clear hown hgrow hblk))
      first | go_ret | skip
      refine E.out _ _ ?_ B5.out
      rw [HL.out, ← HK.out, ← HMM.out, show nodeCells (arrN Ls tl) = nodeCells (arrL Ls) ++ nodeCells tl from nodeCells_append _ _]
      exact RN2.out
end Go.Proofs.YtncifeeinogcnaaGreatDoor
/- slices.Backward over bindings: what comes. -/
set_option maxRecDepth 100000
namespace Go.Proofs.YtncifeeinogcnaaGreatDoor
open Go.RowKit Go.Shelf Go.Lib Go.Maps Go.Proofs.TreeMath
attribute [local go_sem] Oper.semAt_some

/-- A binding as it lies: its number within its range, its type a slice's value. -/
abbrev BE := { x : Int × Value // (Lit.int .i64 x.1).wf = true ∧ ∃ q n c, x.2 = .slice q n c ∧ ∀ a, q = some a → a = ⟨a.block, a.off, none⟩ }
instance : Inhabited BE := ⟨⟨(0, .slice none 0 0), by decide, none, 0, 0, rfl, fun a h => by cases h⟩⟩
def BE.val (x : BE) : Value := .agg #[.int .i64 x.1.1, x.1.2]
end Go.Proofs.YtncifeeinogcnaaGreatDoor
